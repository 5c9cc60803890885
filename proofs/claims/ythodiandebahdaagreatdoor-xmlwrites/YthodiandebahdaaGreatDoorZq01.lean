/- Merged by program: WcBig, XpCopy, XqCopy. -/
import Derived.Test.YthodiandebahdaaGreatDoorZq00
import Derived.Deep.AppendLies
import Derived.Deep.RegionHeld3
import Derived.Deep.RegionLaw
namespace Go.Proofs.YthodiandebahdaaGreatDoor
open Go.RowKit
set_option linter.unusedSimpArgs false
set_option linter.unusedVariables false
set_option maxHeartbeats 8000000
def blk:(n:Nat)→VT n→Nat
 | 0,_=>0
 | n+1,x=>1+x.1.text.size+x.1.dig.size+x.1.names.length+suml (x.1.names.map ByteArray.size)+suml (x.2.map (blk n))
def Sz:(n:Nat)→VT n→Prop
 | 0,_=>True
 | n+1,x=>x.1.text.size≤281474976710656∧x.1.dig.size≤281474976710656∧x.1.names.length≤281474976710656∧(∀ s∈x.1.names,s.size≤281474976710656)∧∀ y∈x.2,Sz n y
theorem siz_blk:∀ (n:Nat)(x:VT n),siz n x≤blk n x
 | 0,x=>Empty.elim x
 | n+1,x=>by
  simp only [siz,blk]
  have:suml (x.2.map (siz n))≤suml (x.2.map (blk n)):=by
   generalize x.2=l
   induction l with
   | nil=>exact Nat.le_refl _
   | cons a l ih=>simp only [List.map_cons,suml];have:=siz_blk n a;omega
  omega
set_option maxRecDepth 100000 in
theorem parts_any:∀ (n:Nat)(x:VT n)(ns ls:Value)(w:World)(m d:Nat),RD n w x ns ls→Sz n x→m≤65536→d≤301 →
  Calls Tryz.prog 21 #[.agg (vals (vhd n x) ns ls),.int .i64 m,.int .i64 65536,.int .i64 d] w fun e w'=>∃ p:Nat,e=.returned (.int .i64 p)∧Hid ((p≤65536→p=m+blk n x)∧p≤1125899906842624)∧Below w.heap.size w w':=by
 intro n
 induction n with
 | zero=>intro x;exact Empty.elim x
 | succ n ih =>
  intro x ns ls w m d hr hz hm hd
  obtain ⟨h,l⟩:=x
  obtain ⟨al,cl,rfl,hc1,hc2⟩:=hr.len
  obtain ⟨an,cn,rfl,hn1,hn2⟩:=hr.1.len
  obtain ⟨z1,z2,z3,z4,z5⟩:=hz
  have hr:=hide hr
  have ih':=hide ih
  have z4:=hide z4
  have z5:=hide z5
  clear ih
  have hm1:(m:Int)≤65536:=by omega
  have e1:(h.text.size:Int)≤281474976710656:=by simp only at z1;omega
  have e2:(h.dig.size:Int)≤281474976710656:=by simp only at z2;omega
  have e3:(h.names.length:Int)≤281474976710656:=by simp only at z3;omega
  clear z1 z2 z3
  simp only at hn1 hn2 hc1 hc2
  show Calls _ _ #[.agg #[.int .i64 h.kind,.bool h.flag,.bool h.neg,.string h.dig,.int .i64 h.exp,.int .u64 h.bits,.string h.text,.slice an h.names.length cn,.slice al l.length cl],_,_,_] _ _
  by_cases hd3:(300:Int)<(d:Int)
  ·go_enter Tryz.func21, Tryz.ntmps21
   go_wp2_with fail
   go_ret
   exact ⟨65537,by first|rfl|simp,⟨fun h=>by omega,by omega⟩,by first|exact below_al (Below.refl _ _)|exact Below.refl _ _⟩
  ·have hB0:=hide (bx_new w h (.slice an h.names.length cn) (.slice al l.length cl))
   obtain ⟨q,hq⟩:∃ q:Nat,q=m+1+h.text.size+h.dig.size+h.names.length:=⟨_,rfl⟩
   have hqi:(m:Int)+1+h.text.size+h.dig.size+h.names.length=(q:Int):=by omega
   have hq2:q≤1125899906842624:=by omega
   have hD:m+blk (n+1) (h,l)=q+suml (h.names.map ByteArray.size)+suml (l.map (blk n)):=by simp only [blk];omega
   have hq':=hide hq
   have hD':=hide hD
   have hq2':=hide hq2
   clear hq hD hq2
   have ml:maxLen=9223372036854775807:=rfl
   go_enter Tryz.func21, Tryz.ntmps21
   go_wp2_with fail
   go_loopw [1,9] (fun u i w'=>∃ (k p:Nat),u=.int .i64 p∧i=.int .i64 k∧k≤h.names.length∧Hid (p=q+suml ((h.names.map ByteArray.size).take k)∧p≤1125899906842624∧Below w.heap.size w w'∧Bx w' w.heap.size h (.slice an h.names.length cn) (.slice al l.length cl))) (fun _ i _=>h.names.length - (intOf i).toNat)
   case atStart=>exact ⟨0,q,rfl,rfl,Nat.zero_le _,rfl,by have:=hq2'.out;omega,below_al (Below.refl _ _),hB0.out⟩
   case round =>
    obtain ⟨k,p,rfl,rfl,hk,H⟩:=hrel
    obtain ⟨c0,c1,c2,c3,c4,c5,c6,c7,c8⟩:=H.out.2.2.2.cells
    clear c0 c1 c2 c3 c4 c5 c6
    have hp63:(p:Int)≤1125899906842624:=by have:=H.out.2.1;omega
    by_cases hkl:k<h.names.length
    ·have hki:(k:Int)<(h.names.length:Int):=by omega
     by_cases hp:(p:Int)≤65536
     ·obtain ⟨b,o,c,he,hbl,hlc,hcm,hcell⟩:=hr.out.1.at k hkl
      have he':=Value.slice.inj he
      obtain ⟨rfl,_,rfl⟩:=he'
      clear he
      have hcell:=(H.out.2.2.1.cell (p:=⟨b,o+k,none⟩) hbl).trans hcell
      have hz:=z4.out h.names[k] (List.getElem_mem _)
      have hmx:=suml_take (h.names.map ByteArray.size) k (by simpa using hkl)
      rw [List.getElem_map] at hmx
      have hmx':=hide hmx
      obtain ⟨s,hs⟩:∃ s,h.names[k]=s:=⟨_,rfl⟩
      simp only at hcell
      rw [hs] at hcell hz
      have hzi:(s.size:Int)≤281474976710656:=by omega
      have hs':=hide hs
      have hz':=hide hz
      clear hmx hs hz
      go_wp2_with fail
      refine ⟨⟨k+1,p+s.size,by go_num,by go_num,by omega,?_⟩,by simp [intOf];omega⟩
      refine ⟨?_,by omega,H.out.2.2⟩
      rw [hmx'.out,hs'.out,H.out.1];omega
     ·go_wp2_with fail
      go_loopw [1,10] (fun u i w'=>∃ (k p:Nat),u=.int .i64 p∧i=.int .i64 k∧k≤l.length∧Hid ((p≤65536→p=q+suml (h.names.map ByteArray.size)+suml ((l.map (blk n)).take k))∧p≤1125899906842624∧Below w.heap.size w w'∧Bx w' w.heap.size h (.slice an h.names.length cn) (.slice al l.length cl))) (fun _ i _=>l.length - (intOf i).toNat)
      case atStart=>exact ⟨0,p,rfl,rfl,Nat.zero_le _,fun h=>by omega,H.out.2⟩
      case round =>
       clear H c7 c8 hp63
       obtain ⟨k2,p2,rfl,rfl,hk2,H⟩:=hrel
       obtain ⟨c0,c1,c2,c3,c4,c5,c6,c7,c8⟩:=H.out.2.2.2.cells
       clear c0 c1 c2 c3 c4 c5 c6
       have hp63:(p2:Int)≤1125899906842624:=by have:=H.out.2.1;omega
       by_cases hkl2:k2<l.length
       ·have hki2:(k2:Int)<(l.length:Int):=by omega
        have hk63:(k2:Int)<9223372036854775807:=by omega
        by_cases hp2:(p2:Int)≤65536
        ·obtain ⟨b,o,c,he,hbl,hlc,hcm,ns',ls',hrg,hrd⟩:=hr.out.at k2 hkl2
         have he':=Value.slice.inj he
         obtain ⟨rfl,_,rfl⟩:=he'
         clear he
         obtain ⟨q0,q1,q2,q3,q4,q5,q6,q7,q8⟩:=range9 (rangeAt_below hrg H.out.2.2.1 hbl)
         have hrd':=hide (hrd.below H.out.2.2.1)
         obtain ⟨a1,m1,d1,a2,m2,d2,rfl,rfl⟩:=hrd.shape
         clear hrg hrd
         have hmx:=suml_take (l.map (blk n)) k2 (by simpa using hkl2)
         rw [List.getElem_map] at hmx
         have hcall:=hide (ih'.out l[k2] (.slice a1 m1 d1) (.slice a2 m2 d2) wr p2 (d+1) hrd'.out (z5.out _ (List.getElem_mem _)) (by omega) (by omega))
         have ed:((d+1:Nat):Int)=(d:Int)+1:=by omega
         rw [ed] at hcall
         have hmx':=hide hmx
         have hp2':=hide hp2
         clear hmx ed
         go_wp2_with (go_at_call 21;refine hcall.out.mono ?_;rintro e w1 ⟨p3,rfl,H3,hb1⟩)
         refine ⟨⟨k2+1,p3,rfl,by go_num,by omega,?_⟩,by simp [intOf];omega⟩
         refine ⟨fun h3=>?_,H3.out.2,below_then H.out.2.2.1 hb1,H.out.2.2.2.below hb1⟩
         have e3:=H3.out.1 h3
         have e2:=H.out.1 (by have:=hp2'.out;omega)
         have e4:=hmx'.out
         omega
        ·go_wp2_with fail
         go_ret
         exact ⟨p2,rfl,⟨fun h3=>by omega,H.out.2.1⟩,H.out.2.2.1⟩
       ·have hki2:¬ ((k2:Int)<(l.length:Int)):=by omega
        have hD2:m+blk (n+1) (h,l)=q+suml (h.names.map ByteArray.size)+suml ((l.map (blk n)).take k2):=by
         rw [hD'.out,List.take_of_length_le (by simp;omega)]
        have hD3:=hide hD2
        clear hD2
        go_wp2_with fail
        go_ret
        exact ⟨p2,rfl,⟨fun h3=>by rw [hD3.out];exact H.out.1 h3,H.out.2.1⟩,H.out.2.2.1⟩
    ·have hki:¬ ((k:Int)<(h.names.length:Int)):=by omega
     go_wp2_with fail
     go_loopw [1,10] (fun u i w'=>∃ (k p:Nat),u=.int .i64 p∧i=.int .i64 k∧k≤l.length∧Hid ((p≤65536→p=q+suml (h.names.map ByteArray.size)+suml ((l.map (blk n)).take k))∧p≤1125899906842624∧Below w.heap.size w w'∧Bx w' w.heap.size h (.slice an h.names.length cn) (.slice al l.length cl))) (fun _ i _=>l.length - (intOf i).toNat)
     case atStart=>exact ⟨0,p,rfl,rfl,Nat.zero_le _,fun _=>by rw [H.out.1,List.take_of_length_le (by simp;omega)];simp [suml],H.out.2⟩
     case round =>
      clear H c7 c8 hp63
      obtain ⟨k2,p2,rfl,rfl,hk2,H⟩:=hrel
      obtain ⟨c0,c1,c2,c3,c4,c5,c6,c7,c8⟩:=H.out.2.2.2.cells
      clear c0 c1 c2 c3 c4 c5 c6
      have hp63:(p2:Int)≤1125899906842624:=by have:=H.out.2.1;omega
      by_cases hkl2:k2<l.length
      ·have hki2:(k2:Int)<(l.length:Int):=by omega
       have hk63:(k2:Int)<9223372036854775807:=by omega
       by_cases hp2:(p2:Int)≤65536
       ·obtain ⟨b,o,c,he,hbl,hlc,hcm,ns',ls',hrg,hrd⟩:=hr.out.at k2 hkl2
        have he':=Value.slice.inj he
        obtain ⟨rfl,_,rfl⟩:=he'
        clear he
        obtain ⟨q0,q1,q2,q3,q4,q5,q6,q7,q8⟩:=range9 (rangeAt_below hrg H.out.2.2.1 hbl)
        have hrd':=hide (hrd.below H.out.2.2.1)
        obtain ⟨a1,m1,d1,a2,m2,d2,rfl,rfl⟩:=hrd.shape
        clear hrg hrd
        have hmx:=suml_take (l.map (blk n)) k2 (by simpa using hkl2)
        rw [List.getElem_map] at hmx
        have hcall:=hide (ih'.out l[k2] (.slice a1 m1 d1) (.slice a2 m2 d2) wr p2 (d+1) hrd'.out (z5.out _ (List.getElem_mem _)) (by omega) (by omega))
        have ed:((d+1:Nat):Int)=(d:Int)+1:=by omega
        rw [ed] at hcall
        have hmx':=hide hmx
        have hp2':=hide hp2
        clear hmx ed
        go_wp2_with (go_at_call 21;refine hcall.out.mono ?_;rintro e w1 ⟨p3,rfl,H3,hb1⟩)
        refine ⟨⟨k2+1,p3,rfl,by go_num,by omega,?_⟩,by simp [intOf];omega⟩
        refine ⟨fun h3=>?_,H3.out.2,below_then H.out.2.2.1 hb1,H.out.2.2.2.below hb1⟩
        have e3:=H3.out.1 h3
        have e2:=H.out.1 (by have:=hp2'.out;omega)
        have e4:=hmx'.out
        omega
       ·go_wp2_with fail
        go_ret
        exact ⟨p2,rfl,⟨fun h3=>by omega,H.out.2.1⟩,H.out.2.2.1⟩
      ·have hki2:¬ ((k2:Int)<(l.length:Int)):=by omega
       have hD2:m+blk (n+1) (h,l)=q+suml (h.names.map ByteArray.size)+suml ((l.map (blk n)).take k2):=by
        rw [hD'.out,List.take_of_length_le (by simp;omega)]
       have hD3:=hide hD2
       clear hD2
       go_wp2_with fail
       go_ret
       exact ⟨p2,rfl,⟨fun h3=>by rw [hD3.out];exact H.out.1 h3,H.out.2.1⟩,H.out.2.2.1⟩
def mny:(n:Nat)→VT n→Bool
 | 0,_=>false
 | n+1,x=>decide (2000<x.1.names.length) || x.2.any (mny n)
theorem any_at {α:Type} {p:α→Bool} {l:List α} {i:Nat} (h:i<l.length)(hp:p l[i]=true):l.any p=true:=List.any_eq_true.2 ⟨_,List.getElem_mem h,hp⟩
set_option maxRecDepth 100000 in
theorem many_any:∀ (n:Nat)(x:VT n)(ns ls:Value)(w:World),RD n w x ns ls →
  Calls Tryz.prog 22 #[.agg (vals (vhd n x) ns ls)] w fun e w'=>e=.returned (.bool (mny n x))∧Below w.heap.size w w':=by
 intro n
 induction n with
 | zero=>intro x;exact Empty.elim x
 | succ n ih =>
  intro x ns ls w hr
  obtain ⟨h,l⟩:=x
  obtain ⟨al,cl,rfl,hc1,hc2⟩:=hr.len
  obtain ⟨an,cn,rfl,hn1,hn2⟩:=hr.1.len
  have hr:=hide hr
  have ih':=hide ih
  clear ih
  simp only at hn1 hn2 hc1 hc2
  have ml:maxLen=9223372036854775807:=rfl
  have hB0:=hide (bx_new w h (.slice an h.names.length cn) (.slice al l.length cl))
  show Calls _ _ #[.agg #[.int .i64 h.kind,.bool h.flag,.bool h.neg,.string h.dig,.int .i64 h.exp,.int .u64 h.bits,.string h.text,.slice an h.names.length cn,.slice al l.length cl]] _ _
  by_cases h2:(2000:Int)<(h.names.length:Int)
  ·have hD:mny (n+1) (h,l)=true:=by simp only [mny];rw [decide_eq_true (by omega)];rfl
   have hD':=hide hD
   clear hD
   go_enter Tryz.func22, Tryz.ntmps22
   go_wp2_with fail
   go_ret
   exact ⟨by rw [hD'.out];rfl,below_al (Below.refl _ _)⟩
  ·have hD:mny (n+1) (h,l)=l.any (mny n):=by simp only [mny];rw [decide_eq_false (by omega)];rfl
   have hD':=hide hD
   clear hD
   go_enter Tryz.func22, Tryz.ntmps22
   go_wp2_with fail
   go_loopw [3] (fun i w'=>∃ k:Nat,i=.int .i64 k∧k≤l.length∧Hid ((l.take k).any (mny n)=false∧Below w.heap.size w w'∧Bx w' w.heap.size h (.slice an h.names.length cn) (.slice al l.length cl))) (fun i _=>l.length - (intOf i).toNat)
   case atStart=>exact ⟨0,rfl,Nat.zero_le _,rfl,below_al (Below.refl _ _),hB0.out⟩
   case round =>
    obtain ⟨k,rfl,hk,H⟩:=hrel
    obtain ⟨c0,c1,c2,c3,c4,c5,c6,c7,c8⟩:=H.out.2.2.cells
    clear c0 c1 c2 c3 c4 c5 c6 c7
    by_cases hkl:k<l.length
    ·have hki:(k:Int)<(l.length:Int):=by omega
     have hk63:(k:Int)<9223372036854775807:=by omega
     obtain ⟨b,o,c,he,hbl,hlc,hcm,ns',ls',hrg,hrd⟩:=hr.out.at k hkl
     have he':=Value.slice.inj he
     obtain ⟨rfl,_,rfl⟩:=he'
     clear he
     obtain ⟨q0,q1,q2,q3,q4,q5,q6,q7,q8⟩:=range9 (rangeAt_below hrg H.out.2.1 hbl)
     have hrd':=hide (hrd.below H.out.2.1)
     obtain ⟨a1,m1,d1,a2,m2,d2,rfl,rfl⟩:=hrd.shape
     clear hrg hrd
     have hcall:=hide (ih'.out l[k] (.slice a1 m1 d1) (.slice a2 m2 d2) wr hrd'.out)
     cases hm:mny n l[k]
     ·rw [hm] at hcall
      have hm':=hide hm
      clear hm
      go_wp2_with (go_at_call 22;refine hcall.out.mono ?_;rintro e w1 ⟨rfl,hb1⟩)
      refine ⟨⟨k+1,by go_num,by omega,?_,below_then H.out.2.1 hb1,H.out.2.2.below hb1⟩,by simp [intOf];omega⟩
      rw [List.take_succ_eq_append_getElem hkl,List.any_append,H.out.1]
      have:=hm'.out
      simp only [List.any_cons,List.any_nil,Bool.or_false,Bool.false_or]
      exact this
     ·rw [hm] at hcall
      have hm':=hide hm
      clear hm
      go_wp2_with (go_at_call 22;refine hcall.out.mono ?_;rintro e w1 ⟨rfl,hb1⟩)
      go_ret
      exact ⟨by rw [hD'.out,any_at hkl hm'.out];rfl,below_then H.out.2.1 hb1⟩
    ·have hki:¬ ((k:Int)<(l.length:Int)):=by omega
     have hE:=H.out.1
     rw [List.take_of_length_le (by omega)] at hE
     have hE':=hide hE
     clear hE
     go_wp2_with fail
     go_ret
     exact ⟨by rw [hD'.out,hE'.out];rfl,H.out.2.1⟩
set_option maxRecDepth 100000 in
theorem big_any (n:Nat)(x:VT n)(ns ls:Value)(w:World)(hr:RD n w x ns ls)(hz:Sz n x) :
  Calls Tryz.prog 8 #[.agg (vals (vhd n x) ns ls)] w fun e w'=>∃ b,e=.returned (.bool b)∧Hid (b=false→blk n x≤65536∧mny n x=false)∧Below w.heap.size w w':=by
 obtain ⟨a1,m1,d1,a2,m2,d2,rfl,rfl⟩:=hr.shape
 obtain ⟨h,hh⟩:∃ h,vhd n x=h:=⟨_,rfl⟩
 have hP:=hide (fun o=>parts_any n x (.slice a1 m1 d1) (.slice a2 m2 d2) (w.alloc o) 0 0 (hr.below (below_al (Below.refl _ _))) hz (by omega) (by omega))
 have hM:=hide (fun W (hb:Below w.heap.size w W)=>many_any n x (.slice a1 m1 d1) (.slice a2 m2 d2) W (hr.below hb))
 have hB0:=hide (bx_new w h (.slice a1 m1 d1) (.slice a2 m2 d2))
 rw [hh] at hP hM ⊢
 clear hr hz hh
 show Calls _ _ #[.agg #[.int .i64 h.kind,.bool h.flag,.bool h.neg,.string h.dig,.int .i64 h.exp,.int .u64 h.bits,.string h.text,.slice a1 m1 d1,.slice a2 m2 d2]] _ _
 go_enter Tryz.func8, Tryz.ntmps8
 go_wp2_with fail
 refine (hP.out _).mono ?_
 rintro e w1 ⟨p,rfl,H,hb1⟩
 have hb2:=hide (below_then (below_al (o:=.cells (vals h (.slice a1 m1 d1) (.slice a2 m2 d2)) 29) (Below.refl w.heap.size w)) hb1)
 obtain ⟨c0,c1,c2,c3,c4,c5,c6,c7,c8⟩:=(hB0.out.below hb1).cells
 have hcall:=hide (hM.out w1 hb2.out)
 by_cases hp:(65536:Int)<(p:Int)
 ·go_wp2_with (go_at_call 22;refine hcall.out.mono ?_;rintro e w2 ⟨rfl,hb3⟩)
  go_ret
  exact ⟨true,rfl,(fun h=>by cases h),hb2.out⟩
 ·cases hm:mny n x
  ·rw [hm] at hcall
   go_wp2_with (go_at_call 22;refine hcall.out.mono ?_;rintro e w2 ⟨rfl,hb3⟩)
   go_ret
   exact ⟨false,ret_bool (decide_eq_false (by omega)),(fun h=>⟨by have:=H.out.1 (by omega);omega,hm⟩),below_then hb2.out hb3⟩
  ·rw [hm] at hcall
   go_wp2_with (go_at_call 22;refine hcall.out.mono ?_;rintro e w2 ⟨rfl,hb3⟩)
   go_ret
   exact ⟨true,rfl,(fun h=>by cases h),below_then hb2.out hb3⟩
def scs (l:List ByteArray):List Value:=l.map Value.string
theorem scs_length (l:List ByteArray):(scs l).length=l.length:=by simp [scs]
theorem scs_one (l:List ByteArray):∀ v∈scs l,v.oneCell'=true:=by
 intro u hu
 simp only [scs,List.mem_map] at hu
 obtain ⟨c,_,rfl⟩:=hu
 rfl
theorem info9:(Tryz.prog.info? 9).map (fun i=>(i.zero,i.size,i.bytes))=some (some (.string ⟨#[]⟩),1,16):=by kernel_rfl
def OwnS (W:World)(B:Nat)(v:Value)(l:List ByteArray):Prop:=W.ownsRow B 9 1 v l.length (scs l)
theorem NL.news {w:World} {b o sp:Nat} {a:Addr} {n c:Nat} {l:List ByteArray} (h:NL w (.slice (some a) n c) l):∀ j u,(scs l)[j]?=some u→w.cell? (a.add j)=some u:=by
 rcases h with ⟨e,_⟩|⟨b,o,c,sp,e,h1,h2,h3,hc⟩
 ·cases e
 ·simp only [Value.slice.injEq,Option.some.injEq] at e
  obtain ⟨rfl,_,rfl⟩:=e
  intro j u hj
  simp only [scs,List.getElem?_map] at hj
  obtain ⟨x,hx,rfl⟩:=Option.map_eq_some_iff.1 hj
  obtain ⟨hjl,rfl⟩:=List.getElem?_eq_some_iff.1 hx
  obtain ⟨rfl,_⟩:=h3 (by omega)
  rw [show (⟨b,o,none⟩:Addr).add j=⟨b,o+j,none⟩ by unfold Addr.add;split <;> simp_all]
  exact hc j hjl
section
variable {w : World} {ops : Array Oper} {rest : List Oper} {o : Oper} {a : Act} {Q : Exit → Act → World → Prop}
theorem app_names (hgd:o.guard=none)(s x:Operand)(ho:o.op=.call {callee:=.builtin .append,args:=#[s,x],argTypes:=#[26,26]})
  (hs:a.eval s=.slice none 0 0)(an:Option Addr)(n cn:Nat)(l:List ByteArray)(hx:a.eval x=.slice an n cn)(hn:l.length=n)(hl:NL w (.slice an n cn) l)(hm:n≤281474976710)
  (h:∀ av c' w',Hid (OwnS w' w.heap.size (.slice av n c') l)→Hid (Below w.heap.size w w')→wpList Tryz.prog ops Q rest (a.put o.dst (.slice av n c')) w'):wpList Tryz.prog ops Q (o :: rest) a w:=by
 obtain ⟨i0,hi,hz0,hz1,hz2⟩:=info_parts info9
 cases an with
 | none =>
  have hn0:n=0∧cn=0∧l=[]:=by
   rcases hl with ⟨e,e2⟩|⟨_,_,_,_,e,_⟩
   ·simp only [Value.slice.injEq] at e;exact ⟨e.2.1,e.2.2,e2⟩
   ·cases e
  obtain ⟨rfl,rfl,rfl⟩:=hn0
  refine wpList_plain hgd fun K hK=>?_
  have hr:=run_append_owned_none (P:=Tryz.prog) w w.heap.size 26 o.type 9 i0 1 Tryz.underlying26 hi (.slice none 0 0) 0 [] (World.ownsRow_nil _ _ _ _)
  unfold Oper.wp execOp
  simp only [ho,resolve,invoke,builtin,Sem.run_bind,Sem.run_pure,Result.andThen_ok,List.map_toArray,List.map_cons,List.map_nil,hs,hx,hr]
  exact hK _ _ (h none 0 w (World.ownsRow_nil _ _ _ _) (Below.refl _ _))
 | some ad =>
  refine wpList_append_own_at w hgd s x 26 ho w.heap.size 9 i0 (.string ⟨#[]⟩) 1 16 Tryz.underlying26 hi hz0 hz1 hz2 rfl (by decide) (.slice none 0 0) 0 [] hs (World.ownsRow_nil _ _ _ _) ad n cn (scs l) hx (by rw [scs_length,hn];simp) (NL.news hl (b:=0) (o:=0) (sp:=0)) (scs_one _) ?_ ?_ (Nat.le_refl _) ?_
  ·unfold maxLen;omega
  ·omega
  ·intro v' w' h1 h2 h3 _
   simp only [Nat.zero_add,List.nil_append] at h1
   have h1':OwnS w' w.heap.size v' l:=by unfold OwnS;rw [hn];exact h1
   have hb:Below w.heap.size w w':=(Below.refl _ w).grown h2 (Nat.le_refl _) (fun k hk=>by cases hk)
   rcases h1.2 with ⟨rfl,e⟩|⟨g,cap,cur,rfl,_⟩
   ·subst e;exact h none 0 w' h1' hb
   ·exact h _ _ w' h1' hb
end
theorem infoVV:(Tryz.prog.info? 29).map (fun i=>(i.zero,i.size,i.bytes))=some (some (.agg #[.int .i64 0,.bool false,.bool false,.string ⟨#[]⟩,.int .i64 0,.int .u64 0,.string ⟨#[]⟩,.slice none 0 0,.slice none 0 0]),9,120):=by kernel_rfl
section
variable {w : World} {ops : Array Oper} {rest : List Oper} {o : Oper} {a : Act} {Q : Exit → Act → World → Prop}
theorem app_v (hgd:o.guard=none)(s x:Operand)(ho:o.op=.call {callee:=.builtin .append,args:=#[s,x],argTypes:=#[27,27]})
  (B:Nat)(v:Value)(n:Nat)(xs:List Value)(hs:a.eval s=v)(hown:w.ownsRow B 29 9 v n xs)(g c:Nat)(hx:a.eval x=.slice (some ⟨g,0,none⟩) 1 c)(hd:Hd)(ns ls:Value)(hn:ns.oneCell'=true)(hl:ls.oneCell'=true)
  (hnews:w.rangeAt g 0 (vals hd ns ls).toList)(hm:n≤200000)(hB:B≤w.heap.size)
  (h:∀ av c' w',Hid (w'.ownsRow B 29 9 (.slice av (n+1) c') (n+1) (xs++(vals hd ns ls).toList))→Hid (w.grownBy w' v.ownBlock)→Hid ((Value.slice av (n+1) c').ownBlock=v.ownBlock∨(Value.slice av (n+1) c').ownBlock=some w.heap.size)→wpList Tryz.prog ops Q rest (a.put o.dst (.slice av (n+1) c')) w'):wpList Tryz.prog ops Q (o :: rest) a w:=by
 obtain ⟨i0,hi,hz0,hz1,hz2⟩:=info_parts infoVV
 refine wpList_append_own_at w hgd s x 27 ho B 29 i0 _ 9 120 Tryz.underlying27 hi hz0 hz1 hz2 rfl (by decide) v n xs hs hown ⟨g,0,none⟩ 1 c (vals hd ns ls).toList hx rfl ?_ ?_ ?_ ?_ hB ?_
 ·intro j u hj
  have:=hnews j u hj
  rw [show (⟨g,0,none⟩:Addr).add j=⟨g,0+j,none⟩ by unfold Addr.add;split <;> simp_all]
  exact this
 ·intro u hu
  simp only [vals,List.mem_cons,List.not_mem_nil,or_false] at hu
  rcases hu with rfl|rfl|rfl|rfl|rfl|rfl|rfl|rfl|rfl
  all_goals first|rfl|exact hn|exact hl
 ·unfold maxLen;omega
 ·omega
 ·intro v' w' h1 h2 h3 h4
  rcases h1.2 with ⟨rfl,e⟩|⟨g',cap,cur,rfl,_⟩
  ·omega
  ·exact h _ _ w' h1 h2 h4
end
def KR (n:Nat)(W:World)(x:VT n)(ns ls:Value)(s e:Nat):Prop:=s≤e∧e≤W.heap.size∧∀ W':World,(∀ k,s≤k→k<e→W'.heap[k]?=W.heap[k]?)→RD n W' x ns ls
theorem KR.move {n:Nat} {W W1:World} {x:VT n} {ns ls:Value} {s e:Nat} (h:KR n W x ns ls s e)(hs:e≤W1.heap.size)(hb:∀ k,s≤k→k<e→W1.heap[k]?=W.heap[k]?):KR n W1 x ns ls s e :=
 ⟨h.1,hs,fun W' h'=>h.2.2 W' fun k h1 h2=>(h' k h1 h2).trans (hb k h1 h2)⟩
theorem KR.rd {n:Nat} {W:World} {x:VT n} {ns ls:Value} {s e:Nat} (h:KR n W x ns ls s e):RD n W x ns ls:=h.2.2 W fun _ _ _=>rfl
structure LI (n:Nat)(l:List (VT n))(w1:World)(k:Nat)(lv:Value)(W:World):Prop where
 below:Below w1.heap.size w1 W
 row:∃ xs,W.ownsRow w1.heap.size 29 9 lv k xs∧∀ j (h:j<l.length),j<k→∃ ns ls s e,KR n W l[j] ns ls s e∧w1.heap.size≤s∧(∀ g,lv.ownBlock=some g→g<s∨e≤g)∧∀ r v,(vals (vhd n l[j]) ns ls).toList[r]?=some v→xs[j * 9+r]?=some v
theorem LI.start {n:Nat} {l:List (VT n)} {w1:World}:LI n l w1 0 (.slice none 0 0) w1 :=
 ⟨Below.refl _ _,[],World.ownsRow_nil _ _ _ _,fun j _ h=>by omega⟩
theorem LI.step {n:Nat} {l:List (VT n)} {w1 W w2 w3 w4:World} {k:Nat} {lv lv':Value} {xs:List Value} {ns ls:Value} (h:LI n l w1 k lv W)(hk:k<l.length)
  (hx:W.ownsRow w1.heap.size 29 9 lv k xs)
  (hall:∀ j (h:j<l.length),j<k→∃ ns ls s e,KR n W l[j] ns ls s e∧w1.heap.size≤s∧(∀ g,lv.ownBlock=some g→g<s∨e≤g)∧∀ r v,(vals (vhd n l[j]) ns ls).toList[r]?=some v→xs[j * 9+r]?=some v)
  (hc:KR n w2 l[k] ns ls W.heap.size w2.heap.size)(hb2:Below W.heap.size W w2)(hb3:Below w2.heap.size w2 w3)(hg:w3.grownBy w4 lv.ownBlock)
  (ho:w4.ownsRow w1.heap.size 29 9 lv' (k+1) (xs++(vals (vhd n l[k]) ns ls).toList))(hat:lv'.ownBlock=lv.ownBlock∨lv'.ownBlock=some w3.heap.size):LI n l w1 (k+1) lv' w4:=by
 have hB:=h.below.size
 have hrow:=hx.lt
 have z2:=hb2.size
 have z3:=hb3.size
 have z4:=hg.size
 refine ⟨?_,_,ho,?_⟩
 ·refine (((h.below.trans (hb2.mono hB)).trans (hb3.mono (by omega))).grown hg (by omega) fun g hg'=>(hrow g hg').1)
 ·intro j hj hjk
  by_cases hjk':j<k
  ·obtain ⟨ns',ls',s,e,k1,k2,k3,k4⟩:=hall j hj hjk'
   refine ⟨ns',ls',s,e,k1.move (by have:=k1.2.1;omega) ?_,k2,?_,?_⟩
   ·intro q q1 q2
    have:=k1.2.1
    rw [hg.block q (by omega) (fun e1=>by rcases k3 q e1.symm with h|h <;> omega),hb3.block q (by omega),hb2.block q (by omega)]
   ·intro g hg'
    rcases hat with h|h
    ·exact k3 g (h ▸ hg')
    ·rw [h] at hg';cases hg';right;have:=k1.2.1;omega
   ·intro r v hr
    have:=k4 r v hr
    rw [List.getElem?_append_left ((List.getElem?_eq_some_iff.1 this).1)]
    exact this
  ·obtain rfl:j=k:=by omega
   refine ⟨ns,ls,W.heap.size,w2.heap.size,hc.move (by omega) ?_,hB,?_,?_⟩
   ·intro q q1 q2
    rw [hg.block q (by omega) (fun e1=>by have:=(hrow q e1.symm).2;omega),hb3.block q (by omega)]
   ·intro g hg'
    rcases hat with h|h
    ·left;exact (hrow g (h ▸ hg')).2
    ·rw [h] at hg';cases hg';right;omega
   ·intro r v hr
    have hl:xs.length=j * 9:=hx.1
    rw [List.getElem?_append_right (by omega),hl,Nat.add_sub_cancel_left]
    exact hr
theorem LI.done {n:Nat} {h:Hd} {l:List (VT n)} {w w1 W W1:World} {nv lv:Value} (H:LI n l w1 l.length lv W)(ho:OwnS w1 (w.heap.size+2) nv h.names)(hz:w.heap.size+2≤w1.heap.size)
  (hs:W1.heap.size=W.heap.size)(hb:∀ k,w.heap.size+2≤k→W1.heap[k]?=W.heap[k]?):KR (n+1) W1 (h,l) nv lv w.heap.size W1.heap.size:=by
 obtain ⟨xs,hx,hall⟩:=H.row
 have hB:=H.below.size
 refine ⟨by omega,Nat.le_refl _,fun W' h'=>⟨?_,?_⟩⟩
 ·have hr:=World.ownsRow.lt ho
  have ho2:=ho
  obtain ⟨h0,h1⟩:=ho
  rcases h1 with ⟨rfl,e⟩|⟨g,cap,cur,rfl,k1,k2,k3,k4,k5,k6⟩
  ·exact Or.inl ⟨rfl,List.eq_nil_of_length_eq_zero e⟩
  ·have hg:=(hr g rfl).2
   have hg2:=(hr g rfl).1
   have hsame:W'.heap[g]?=w1.heap[g]?:=by rw [h' g (by omega) (by omega),hb g hg2,H.below.block g hg]
   refine Or.inr ⟨g,0,cap,none,rfl,k3,k4,fun _=>⟨rfl,?_⟩,fun i hi=>?_⟩
   ·by_cases hlt:g<W'.heap.size
    ·exact hlt
    ·rw [k2,Array.getElem?_eq_none (by omega)] at hsame;cases hsame
   ·rw [Nat.zero_add,World.cell?_of_block (a:=⟨g,i,none⟩) hsame,World.ownsRow.cellAt ho2 i (by simpa using hi)]
    simp [scs,hi]
 ·have hr:=World.ownsRow.lt hx
  have hx2:=hx
  obtain ⟨h0,h1⟩:=hx
  rcases h1 with ⟨rfl,e⟩|⟨g,cap,cur,rfl,k1,k2,k3,k4,k5,k6⟩
  ·exact Or.inl ⟨rfl,List.eq_nil_of_length_eq_zero e⟩
  ·have hg:=(hr g rfl).2
   have hsame:W'.heap[g]?=W.heap[g]?:=by rw [h' g (by omega) (by omega),hb g (by omega)]
   refine Or.inr ⟨g,0,cap,none,rfl,k3,k4,fun _=>⟨rfl,?_⟩,fun i hi=>?_⟩
   ·by_cases hlt:g<W'.heap.size
    ·exact hlt
    ·rw [k2,Array.getElem?_eq_none (by omega)] at hsame;cases hsame
   ·obtain ⟨ns',ls',s,e,q1,q2,q3,q4⟩:=hall i hi hi
    refine ⟨ns',ls',?_,q1.2.2 W' fun k r1 r2=>?_⟩
    ·intro r v hrv
     have hq:=q4 r v hrv
     have hlt:=(List.getElem?_eq_some_iff.1 hq).1
     have hr9:r<9:=(List.getElem?_eq_some_iff.1 hrv).1
     rw [Nat.zero_add,World.cell?_of_block (a:=⟨g,i * 9+r,none⟩) hsame,World.ownsRow.cellAt hx2 _ (by rw [h0] at hlt;exact hlt)]
     exact hq
    ·have:=q1.2.1
     rw [h' k (by omega) (by omega),hb k (by omega)]
theorem blk_pos:∀ (n:Nat)(x:VT n),1≤blk n x
 | 0,x=>Empty.elim x
 | n+1,x=>by simp only [blk];omega
theorem blk_len (n:Nat)(l:List (VT n)):l.length≤suml (l.map (blk n)):=by
 induction l with
 | nil=>simp [suml]
 | cons a l ih=>simp only [List.map_cons,suml,List.length_cons];have:=blk_pos n a;omega
theorem blk_at (n:Nat)(l:List (VT n))(k:Nat)(h:k<l.length):blk n l[k]≤suml (l.map (blk n)):=by
 have h1:=suml_take (l.map (blk n)) k (by simpa using h)
 have h2:=suml_take_le (l.map (blk n)) (k+1)
 rw [List.getElem_map] at h1
 omega
theorem ownsRow_of {W W1:World} {B:Nat} {T:TypeId} {sz:Nat} {v:Value} {n:Nat} {xs:List Value} (h:W.ownsRow B T sz v n xs)(hb:∀ k,v.ownBlock=some k→k<W.heap.size→W1.heap[k]?=W.heap[k]?):W1.ownsRow B T sz v n xs:=by
 have hr:=World.ownsRow.lt h
 obtain ⟨h0,h⟩:=h
 refine ⟨h0,?_⟩
 rcases h with ⟨rfl,e⟩|⟨g,cap,cur,rfl,h2,h3,h4⟩
 ·exact Or.inl ⟨rfl,e⟩
 ·exact Or.inr ⟨g,cap,cur,rfl,h2,by rw [hb g rfl (hr g rfl).2];exact h3,h4⟩
def ZB (W:World)(i:Nat):Prop:=W.heap[i]?=some (.cells #[.int .i64 0,.bool false,.bool false,.string ⟨#[]⟩,.int .i64 0,.int .u64 0,.string ⟨#[]⟩,.slice none 0 0,.slice none 0 0] 29 (0,0))
theorem ZB.cells {W:World} {i:Nat} (q:ZB W i):W.cell? ⟨i,0,none⟩=some (.int .i64 0)∧W.cell? ⟨i,1,none⟩=some (.bool false)∧W.cell? ⟨i,2,none⟩=some (.bool false)∧W.cell? ⟨i,3,none⟩=some (.string ⟨#[]⟩)∧W.cell? ⟨i,4,none⟩=some (.int .i64 0)∧W.cell? ⟨i,5,none⟩=some (.int .u64 0)∧W.cell? ⟨i,6,none⟩=some (.string ⟨#[]⟩)∧W.cell? ⟨i,7,none⟩=some (.slice none 0 0)∧W.cell? ⟨i,8,none⟩=some (.slice none 0 0):=by
 unfold ZB at q
 simp [World.cell?,q]
theorem ZB.frz {W:World} {i:Nat} (q:ZB W i)(j:Nat):W.frozen? ⟨i,j,none⟩=false:=by
 unfold ZB at q
 simp [World.frozen?,q]
theorem Bx.frz {W:World} {i:Nat} {h:Hd} {ns ls:Value} (q:Bx W i h ns ls)(j:Nat):W.frozen? ⟨i,j,none⟩=false:=by
 have:=q.at_
 simp [World.frozen?,this]
theorem heap_set_ne {W:World} {i o q:Nat} {u:Value} (h:q≠i):(W.setCell ⟨i,o,none⟩ u).heap[q]?=W.heap[q]?:=Below.heap_setCell _ _ _ _ h
theorem range_new (w:World)(h:Hd)(ns ls:Value):(w.alloc (.cells (vals h ns ls) 29)).rangeAt w.heap.size 0 (vals h ns ls).toList:=(bx_new w h ns ls).range
set_option maxRecDepth 100000 in
theorem copy_any:∀ (n:Nat)(x:VT n)(ns ls:Value)(w:World),RD n w x ns ls→blk n x≤200000 →
  Calls Tryz.prog 9 #[.agg (vals (vhd n x) ns ls)] w fun e w'=>∃ ns' ls',e=.returned (.agg (vals (vhd n x) ns' ls'))∧Hid (KR n w' x ns' ls' w.heap.size w'.heap.size)∧Below w.heap.size w w':=by
 intro n
 induction n with
 | zero=>intro x;exact Empty.elim x
 | succ n ih =>
  intro x ns ls w hr hbk
  obtain ⟨h,l⟩:=x
  obtain ⟨al,cl,rfl,hc1,hc2⟩:=hr.len
  obtain ⟨an,cn,rfl,hn1,hn2⟩:=hr.1.len
  have hr:=hide hr
  have ih':=hide ih
  clear ih
  have hbn:h.names.length≤200000:=by simp only [blk] at hbk;omega
  have hbl:l.length≤200000:=by have:=blk_len n l;simp only [blk] at hbk;omega
  have hbe:Hid (∀ k (hk:k<l.length),blk n l[k]≤200000):=fun k hk=>by have:=blk_at n l k hk;simp only [blk] at hbk;omega
  clear hbk
  simp only at hn1 hn2 hc1 hc2
  have hB0:=hide (bx_new w h (.slice an h.names.length cn) (.slice al l.length cl))
  have ml:maxLen=9223372036854775807:=rfl
  show Calls _ _ #[.agg #[.int .i64 h.kind,.bool h.flag,.bool h.neg,.string h.dig,.int .i64 h.exp,.int .u64 h.bits,.string h.text,.slice an h.names.length cn,.slice al l.length cl]] _ _
  go_enter Tryz.func9, Tryz.ntmps9
  go_wp2_with (at_builtin;refine app_names rfl (.tmp 6) (.tmp 8) rfl rfl an _ cn h.names rfl rfl (hr.out.1.below (below_al (below_al (Below.refl _ _)))) (by omega) ?_;intro av c' w1 ho1 hb1)
  have hz1:Hid (w.heap.size+2≤w1.heap.size):=by have:=hb1.out.size;simp at this;show _≤_;omega
  have hbw:Hid (Below w.heap.size w w1):=(below_al (below_al (Below.refl _ _))).trans (hb1.out.mono (by simp;omega))
  have hX1:Hid (Bx w1 w.heap.size h (.slice an h.names.length cn) (.slice al l.length cl)):=(hB0.out.below (below_al (Below.refl _ _))).below hb1.out
  have hR1:Hid (ZB w1 (w.heap.size+1)):=by
   show _=_
   rw [hb1.out.block _ (by simp)]
   rw [show w.heap.size+1=(w.alloc (.cells (vals h (.slice an h.names.length cn) (.slice al l.length cl)) 29)).heap.size by simp]
   exact heap_alloc_new _ _
  have hO1:Hid (OwnS w1 (w.heap.size+2) (.slice av h.names.length c') h.names):=by have:=ho1.out;simp at this;exact this
  clear hB0 ho1 hb1
  go_loopw [4,5] (fun u i w'=>∃ (k:Nat)(av:Option Addr)(c:Nat),i=.int .i64 k∧u=.slice av k c∧k≤l.length∧Hid (LI n l w1 k u w')) (fun _ i _=>l.length - (intOf i).toNat)
  case atStart=>exact ⟨0,none,0,rfl,rfl,Nat.zero_le _,LI.start⟩
  case round =>
   obtain ⟨k,lav,lc,rfl,rfl,hk,H⟩:=hrel
   have hX:=hide (hX1.out.below H.out.below)
   obtain ⟨c0,c1,c2,c3,c4,c5,c6,c7,c8⟩:=hX.out.cells
   by_cases hkl:k<l.length
   ·have hki:(k:Int)<(l.length:Int):=by omega
    obtain ⟨b,o,c,he,hbl',hlc,hcm,ns',ls',hrg,hrd⟩:=hr.out.at k hkl
    have he':=Value.slice.inj he
    obtain ⟨rfl,_,rfl⟩:=he'
    clear he
    have hwb:Hid (Below w.heap.size w wr):=hbw.out.trans (H.out.below.mono (by have:=hz1.out;omega))
    have hrgW:=rangeAt_below hrg hwb.out hbl'
    have hrdW:=hide (hrd.below hwb.out)
    obtain ⟨d0,d1,d2,d3,d4,d5,d6,d7,d8⟩:=range9 hrgW
    have cal:=hide (ih'.out l[k] ns' ls' wr hrdW.out (hbe.out k hkl))
    simp only at d0 d1 d2 d3 d4 d5 d6 d7 d8
    obtain ⟨y,hy⟩:∃ y,l[k]=y:=⟨_,rfl⟩
    obtain ⟨hd,hhd⟩:∃ hd,vhd n l[k]=hd:=⟨_,rfl⟩
    rw [hhd] at d0 d1 d2 d3 d4 d5 d6 cal
    simp only [vals] at cal
    clear hrg hrd
    obtain ⟨xs,hx,hall⟩:=H.out.row
    have Hx:=hide hx
    have Hall:=hide hall
    clear hx hall
    go_wp2_with fail
    refine cal.out.mono ?_
    rintro e w2 ⟨ns2,ls2,rfl,hk2,hb2⟩
    rw [←hy] at *
    obtain ⟨q1,q2,q3,q4,q5,q6,rfl,rfl⟩:=hk2.out.rd.shape
    have hz2:=hb2.size
    have hb2':=hide hb2
    clear hb2
    go_wp2_with (at_builtin;refine app_v rfl (.tmp 17) (.tmp 24) rfl w1.heap.size _ k xs rfl (ownsRow_of Hx.out fun g hg hlt=>by rw [Below.heap_alloc _ _ _ (by omega),hb2'.out.block g hlt]) w2.heap.size 1 rfl hd (.slice q1 q2 q3) (.slice q4 q5 q6) rfl rfl (range_new w2 hd (.slice q1 q2 q3) (.slice q4 q5 q6)) (by omega) (by have:=H.out.below.size;simp;omega) ?_;intro av2 c2 w4 ho4 hg4 hat4)
    refine ⟨⟨k+1,av2,c2,by go_num,rfl,by omega,?_⟩,by simp [intOf];omega⟩
    show LI _ _ _ _ _ _
    refine LI.step (w2:=w2) (w3:=w2.alloc (.cells (vals hd (.slice q1 q2 q3) (.slice q4 q5 q6)) 29)) (ns:=.slice q1 q2 q3) (ls:=.slice q4 q5 q6) H.out hkl Hx.out Hall.out hk2.out hb2'.out (below_al (Below.refl _ _)) hg4.out ?_ hat4.out
    rw [hhd]
    exact ho4.out
   ·have hke:k=l.length:=by omega
    have hki:¬ ((k:Int)<(l.length:Int)):=by omega
    have hZ:ZB wr (w.heap.size+1):=(H.out.below.block _ (by have:=hz1.out;omega)).trans hR1.out
    obtain ⟨r0,r1,r2,r3,r4,r5,r6,r7,r8⟩:=hZ.cells
    have fz:=hZ.frz
    have fx:=hX.out.frz
    have hkc:=hide hke
    clear hke hZ
    go_wp2_with fail
    refine bodyPost_ret (v:=.agg #[.int .i64 h.kind,.bool h.flag,.bool h.neg,.string h.dig,.int .i64 h.exp,.int .u64 h.bits,.string h.text,.slice av h.names.length c',.slice lav k lc]) (by simp [results,Tryz.results9,go_sem, *]) rfl ⟨.slice av h.names.length c',.slice lav k lc,rfl,?_,?_⟩
    ·have e:=hkc.out
     subst e
     refine LI.done (W:=wr) H.out hO1.out hz1.out (by simp) ?_
     intro q hq
     simp only [heap_set_ne (show q≠w.heap.size by omega),heap_set_ne (show q≠w.heap.size+1 by omega)]
    ·have hb0:Below w.heap.size w wr:=hbw.out.trans (H.out.below.mono (by have:=hz1.out;omega))
     iterate 11 refine Below.setCell ?_ (by show _≤_;first|exact Nat.le_refl _|exact Nat.le_succ _) _
     exact hb0
end Go.Proofs.YthodiandebahdaaGreatDoor
