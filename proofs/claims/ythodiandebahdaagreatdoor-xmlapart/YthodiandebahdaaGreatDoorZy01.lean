/- Merged by program: WcBig, XpCopy, XqCopy, JaPut, OcPower, NmMath, NdCmp, NfTrim, NhForm. -/
import Derived.Test.YthodiandebahdaaGreatDoorZy00
import Derived.Deep.AppendLies
import Derived.Deep.RegionHeld3
import Derived.Deep.RegionLaw
namespace Go.Proofs.YthodiandebahdaaGreatDoor
open Go.RowKit
set_option linter.unusedSimpArgs false
set_option linter.unusedVariables false
set_option maxHeartbeats 8000000
def blk:(n:Nat)→VT n→Nat
 | 0,_=>0
 | n + 1,x=>1 + x.1.text.size + x.1.dig.size + x.1.names.length + suml (x.1.names.map ByteArray.size) + suml (x.2.map (blk n))
def Sz:(n:Nat)→VT n→Prop
 | 0,_=>True
 | n + 1,x=>x.1.text.size≤281474976710656∧x.1.dig.size≤281474976710656∧x.1.names.length≤281474976710656∧(∀ s∈x.1.names,s.size≤281474976710656)∧∀ y∈x.2,Sz n y
theorem siz_blk:∀ (n:Nat) (x:VT n),siz n x≤blk n x
 | 0,x=>Empty.elim x
 | n + 1,x=>by
  simp only [siz,blk]
  have:suml (x.2.map (siz n))≤suml (x.2.map (blk n)):=by
   generalize x.2=l
   induction l with
   | nil=>exact Nat.le_refl _
   | cons a l ih=>simp only [List.map_cons,suml];have:=siz_blk n a;omega
  omega
set_option maxRecDepth 100000 in
theorem parts_any:∀ (n:Nat) (x:VT n) (ns ls:Value) (w:World) (m d:Nat),RD n w x ns ls→Sz n x→m≤65536→d≤301 →
  Calls Tryz.prog 21 #[.agg (vals (vhd n x) ns ls),.int .i64 m,.int .i64 65536,.int .i64 d] w fun e w'=>∃ p:Nat,e=.returned (.int .i64 p)∧Hid ((p≤65536→p=m + blk n x)∧p≤1125899906842624)∧Below w.heap.size w w':=by
 intro n
 induction n with
 | zero=>intro x;exact Empty.elim x
 | succ n ih =>
  intro x ns ls w m d hr hz hm hd
  obtain ⟨h,l⟩:=x
  obtain ⟨al,cl,rfl,hc1,hc2⟩:=hr.len
  obtain ⟨an,cn,rfl,hn1,hn2⟩:=hr.1.len
  obtain ⟨z1,z2,z3,z4,z5⟩:=hz
  have hr:=hide hr
  have ih':=hide ih
  have z4:=hide z4
  have z5:=hide z5
  clear ih
  have hm1:(m:Int)≤65536:=by omega
  have e1:(h.text.size:Int)≤281474976710656:=by simp only at z1;omega
  have e2:(h.dig.size:Int)≤281474976710656:=by simp only at z2;omega
  have e3:(h.names.length:Int)≤281474976710656:=by simp only at z3;omega
  clear z1 z2 z3
  simp only at hn1 hn2 hc1 hc2
  show Calls _ _ #[.agg #[.int .i64 h.kind,.bool h.flag,.bool h.neg,.string h.dig,.int .i64 h.exp,.int .u64 h.bits,.string h.text,.slice an h.names.length cn,.slice al l.length cl],_,_,_] _ _
  by_cases hd3:(300:Int)<(d:Int)
  ·go_enter Tryz.func21, Tryz.ntmps21
   go_wp2_with fail
   go_ret
   exact ⟨65537,by first|rfl|simp,⟨fun h=>by omega,by omega⟩,by first|exact below_al (Below.refl _ _)|exact Below.refl _ _⟩
  ·have hB0:=hide (bx_new w h (.slice an h.names.length cn) (.slice al l.length cl))
   obtain ⟨q,hq⟩:∃ q:Nat,q=m + 1 + h.text.size + h.dig.size + h.names.length:=⟨_,rfl⟩
   have hqi:(m:Int) + 1 + h.text.size + h.dig.size + h.names.length=(q:Int):=by omega
   have hq2:q≤1125899906842624:=by omega
   have hD:m + blk (n + 1) (h,l)=q + suml (h.names.map ByteArray.size) + suml (l.map (blk n)):=by simp only [blk];omega
   have hq':=hide hq
   have hD':=hide hD
   have hq2':=hide hq2
   clear hq hD hq2
   have ml:maxLen=9223372036854775807:=rfl
   go_enter Tryz.func21, Tryz.ntmps21
   go_wp2_with fail
   go_loopw [1,9] (fun u i w'=>∃ (k p:Nat),u=.int .i64 p∧i=.int .i64 k∧k≤h.names.length∧Hid (p=q + suml ((h.names.map ByteArray.size).take k)∧p≤1125899906842624∧Below w.heap.size w w'∧Bx w' w.heap.size h (.slice an h.names.length cn) (.slice al l.length cl))) (fun _ i _=>h.names.length - (intOf i).toNat)
   case atStart=>exact ⟨0,q,rfl,rfl,Nat.zero_le _,rfl,by have:=hq2'.out;omega,below_al (Below.refl _ _),hB0.out⟩
   case round =>
    obtain ⟨k,p,rfl,rfl,hk,H⟩:=hrel
    obtain ⟨c0,c1,c2,c3,c4,c5,c6,c7,c8⟩:=H.out.2.2.2.cells
    clear c0 c1 c2 c3 c4 c5 c6
    have hp63:(p:Int)≤1125899906842624:=by have:=H.out.2.1;omega
    by_cases hkl:k<h.names.length
    ·have hki:(k:Int)<(h.names.length:Int):=by omega
     by_cases hp:(p:Int)≤65536
     ·obtain ⟨b,o,c,he,hbl,hlc,hcm,hcell⟩:=hr.out.1.at k hkl
      have he':=Value.slice.inj he
      obtain ⟨rfl,_,rfl⟩:=he'
      clear he
      have hcell:=(H.out.2.2.1.cell (p:=⟨b,o + k,none⟩) hbl).trans hcell
      have hz:=z4.out h.names[k] (List.getElem_mem _)
      have hmx:=suml_take (h.names.map ByteArray.size) k (by simpa using hkl)
      rw [List.getElem_map] at hmx
      have hmx':=hide hmx
      obtain ⟨s,hs⟩:∃ s,h.names[k]=s:=⟨_,rfl⟩
      simp only at hcell
      rw [hs] at hcell hz
      have hzi:(s.size:Int)≤281474976710656:=by omega
      have hs':=hide hs
      have hz':=hide hz
      clear hmx hs hz
      go_wp2_with fail
      refine ⟨⟨k + 1,p + s.size,by go_num,by go_num,by omega,?_⟩,by simp [intOf];omega⟩
      refine ⟨?_,by omega,H.out.2.2⟩
      rw [hmx'.out,hs'.out,H.out.1];omega
     ·go_wp2_with fail
      go_loopw [1,10] (fun u i w'=>∃ (k p:Nat),u=.int .i64 p∧i=.int .i64 k∧k≤l.length∧Hid ((p≤65536→p=q + suml (h.names.map ByteArray.size) + suml ((l.map (blk n)).take k))∧p≤1125899906842624∧Below w.heap.size w w'∧Bx w' w.heap.size h (.slice an h.names.length cn) (.slice al l.length cl))) (fun _ i _=>l.length - (intOf i).toNat)
      case atStart=>exact ⟨0,p,rfl,rfl,Nat.zero_le _,fun h=>by omega,H.out.2⟩
      case round =>
       clear H c7 c8 hp63
       obtain ⟨k2,p2,rfl,rfl,hk2,H⟩:=hrel
       obtain ⟨c0,c1,c2,c3,c4,c5,c6,c7,c8⟩:=H.out.2.2.2.cells
       clear c0 c1 c2 c3 c4 c5 c6
       have hp63:(p2:Int)≤1125899906842624:=by have:=H.out.2.1;omega
       by_cases hkl2:k2<l.length
       ·have hki2:(k2:Int)<(l.length:Int):=by omega
        have hk63:(k2:Int)<9223372036854775807:=by omega
        by_cases hp2:(p2:Int)≤65536
        ·obtain ⟨b,o,c,he,hbl,hlc,hcm,ns',ls',hrg,hrd⟩:=hr.out.at k2 hkl2
         have he':=Value.slice.inj he
         obtain ⟨rfl,_,rfl⟩:=he'
         clear he
         obtain ⟨q0,q1,q2,q3,q4,q5,q6,q7,q8⟩:=range9 (rangeAt_below hrg H.out.2.2.1 hbl)
         have hrd':=hide (hrd.below H.out.2.2.1)
         obtain ⟨a1,m1,d1,a2,m2,d2,rfl,rfl⟩:=hrd.shape
         clear hrg hrd
         have hmx:=suml_take (l.map (blk n)) k2 (by simpa using hkl2)
         rw [List.getElem_map] at hmx
         have hcall:=hide (ih'.out l[k2] (.slice a1 m1 d1) (.slice a2 m2 d2) wr p2 (d + 1) hrd'.out (z5.out _ (List.getElem_mem _)) (by omega) (by omega))
         have ed:((d + 1:Nat):Int)=(d:Int) + 1:=by omega
         rw [ed] at hcall
         have hmx':=hide hmx
         have hp2':=hide hp2
         clear hmx ed
         go_wp2_with (go_at_call 21;refine hcall.out.mono ?_;rintro e w1 ⟨p3,rfl,H3,hb1⟩)
         refine ⟨⟨k2 + 1,p3,rfl,by go_num,by omega,?_⟩,by simp [intOf];omega⟩
         refine ⟨fun h3=>?_,H3.out.2,below_then H.out.2.2.1 hb1,H.out.2.2.2.below hb1⟩
         have e3:=H3.out.1 h3
         have e2:=H.out.1 (by have:=hp2'.out;omega)
         have e4:=hmx'.out
         omega
        ·go_wp2_with fail
         go_ret
         exact ⟨p2,rfl,⟨fun h3=>by omega,H.out.2.1⟩,H.out.2.2.1⟩
       ·have hki2:¬ ((k2:Int)<(l.length:Int)):=by omega
        have hD2:m + blk (n + 1) (h,l)=q + suml (h.names.map ByteArray.size) + suml ((l.map (blk n)).take k2):=by
         rw [hD'.out,List.take_of_length_le (by simp;omega)]
        have hD3:=hide hD2
        clear hD2
        go_wp2_with fail
        go_ret
        exact ⟨p2,rfl,⟨fun h3=>by rw [hD3.out];exact H.out.1 h3,H.out.2.1⟩,H.out.2.2.1⟩
    ·have hki:¬ ((k:Int)<(h.names.length:Int)):=by omega
     go_wp2_with fail
     go_loopw [1,10] (fun u i w'=>∃ (k p:Nat),u=.int .i64 p∧i=.int .i64 k∧k≤l.length∧Hid ((p≤65536→p=q + suml (h.names.map ByteArray.size) + suml ((l.map (blk n)).take k))∧p≤1125899906842624∧Below w.heap.size w w'∧Bx w' w.heap.size h (.slice an h.names.length cn) (.slice al l.length cl))) (fun _ i _=>l.length - (intOf i).toNat)
     case atStart=>exact ⟨0,p,rfl,rfl,Nat.zero_le _,fun _=>by rw [H.out.1,List.take_of_length_le (by simp;omega)];simp [suml],H.out.2⟩
     case round =>
      clear H c7 c8 hp63
      obtain ⟨k2,p2,rfl,rfl,hk2,H⟩:=hrel
      obtain ⟨c0,c1,c2,c3,c4,c5,c6,c7,c8⟩:=H.out.2.2.2.cells
      clear c0 c1 c2 c3 c4 c5 c6
      have hp63:(p2:Int)≤1125899906842624:=by have:=H.out.2.1;omega
      by_cases hkl2:k2<l.length
      ·have hki2:(k2:Int)<(l.length:Int):=by omega
       have hk63:(k2:Int)<9223372036854775807:=by omega
       by_cases hp2:(p2:Int)≤65536
       ·obtain ⟨b,o,c,he,hbl,hlc,hcm,ns',ls',hrg,hrd⟩:=hr.out.at k2 hkl2
        have he':=Value.slice.inj he
        obtain ⟨rfl,_,rfl⟩:=he'
        clear he
        obtain ⟨q0,q1,q2,q3,q4,q5,q6,q7,q8⟩:=range9 (rangeAt_below hrg H.out.2.2.1 hbl)
        have hrd':=hide (hrd.below H.out.2.2.1)
        obtain ⟨a1,m1,d1,a2,m2,d2,rfl,rfl⟩:=hrd.shape
        clear hrg hrd
        have hmx:=suml_take (l.map (blk n)) k2 (by simpa using hkl2)
        rw [List.getElem_map] at hmx
        have hcall:=hide (ih'.out l[k2] (.slice a1 m1 d1) (.slice a2 m2 d2) wr p2 (d + 1) hrd'.out (z5.out _ (List.getElem_mem _)) (by omega) (by omega))
        have ed:((d + 1:Nat):Int)=(d:Int) + 1:=by omega
        rw [ed] at hcall
        have hmx':=hide hmx
        have hp2':=hide hp2
        clear hmx ed
        go_wp2_with (go_at_call 21;refine hcall.out.mono ?_;rintro e w1 ⟨p3,rfl,H3,hb1⟩)
        refine ⟨⟨k2 + 1,p3,rfl,by go_num,by omega,?_⟩,by simp [intOf];omega⟩
        refine ⟨fun h3=>?_,H3.out.2,below_then H.out.2.2.1 hb1,H.out.2.2.2.below hb1⟩
        have e3:=H3.out.1 h3
        have e2:=H.out.1 (by have:=hp2'.out;omega)
        have e4:=hmx'.out
        omega
       ·go_wp2_with fail
        go_ret
        exact ⟨p2,rfl,⟨fun h3=>by omega,H.out.2.1⟩,H.out.2.2.1⟩
      ·have hki2:¬ ((k2:Int)<(l.length:Int)):=by omega
       have hD2:m + blk (n + 1) (h,l)=q + suml (h.names.map ByteArray.size) + suml ((l.map (blk n)).take k2):=by
        rw [hD'.out,List.take_of_length_le (by simp;omega)]
       have hD3:=hide hD2
       clear hD2
       go_wp2_with fail
       go_ret
       exact ⟨p2,rfl,⟨fun h3=>by rw [hD3.out];exact H.out.1 h3,H.out.2.1⟩,H.out.2.2.1⟩
def mny:(n:Nat)→VT n→Bool
 | 0,_=>false
 | n + 1,x=>decide (2000<x.1.names.length) || x.2.any (mny n)
theorem any_at {α:Type} {p:α→Bool} {l:List α} {i:Nat} (h:i<l.length) (hp:p l[i]=true):l.any p=true:=List.any_eq_true.2 ⟨_,List.getElem_mem h,hp⟩
set_option maxRecDepth 100000 in
theorem many_any:∀ (n:Nat) (x:VT n) (ns ls:Value) (w:World),RD n w x ns ls →
  Calls Tryz.prog 22 #[.agg (vals (vhd n x) ns ls)] w fun e w'=>e=.returned (.bool (mny n x))∧Below w.heap.size w w':=by
 intro n
 induction n with
 | zero=>intro x;exact Empty.elim x
 | succ n ih =>
  intro x ns ls w hr
  obtain ⟨h,l⟩:=x
  obtain ⟨al,cl,rfl,hc1,hc2⟩:=hr.len
  obtain ⟨an,cn,rfl,hn1,hn2⟩:=hr.1.len
  have hr:=hide hr
  have ih':=hide ih
  clear ih
  simp only at hn1 hn2 hc1 hc2
  have ml:maxLen=9223372036854775807:=rfl
  have hB0:=hide (bx_new w h (.slice an h.names.length cn) (.slice al l.length cl))
  show Calls _ _ #[.agg #[.int .i64 h.kind,.bool h.flag,.bool h.neg,.string h.dig,.int .i64 h.exp,.int .u64 h.bits,.string h.text,.slice an h.names.length cn,.slice al l.length cl]] _ _
  by_cases h2:(2000:Int)<(h.names.length:Int)
  ·have hD:mny (n + 1) (h,l)=true:=by simp only [mny];rw [decide_eq_true (by omega)];rfl
   have hD':=hide hD
   clear hD
   go_enter Tryz.func22, Tryz.ntmps22
   go_wp2_with fail
   go_ret
   exact ⟨by rw [hD'.out];rfl,below_al (Below.refl _ _)⟩
  ·have hD:mny (n + 1) (h,l)=l.any (mny n):=by simp only [mny];rw [decide_eq_false (by omega)];rfl
   have hD':=hide hD
   clear hD
   go_enter Tryz.func22, Tryz.ntmps22
   go_wp2_with fail
   go_loopw [3] (fun i w'=>∃ k:Nat,i=.int .i64 k∧k≤l.length∧Hid ((l.take k).any (mny n)=false∧Below w.heap.size w w'∧Bx w' w.heap.size h (.slice an h.names.length cn) (.slice al l.length cl))) (fun i _=>l.length - (intOf i).toNat)
   case atStart=>exact ⟨0,rfl,Nat.zero_le _,rfl,below_al (Below.refl _ _),hB0.out⟩
   case round =>
    obtain ⟨k,rfl,hk,H⟩:=hrel
    obtain ⟨c0,c1,c2,c3,c4,c5,c6,c7,c8⟩:=H.out.2.2.cells
    clear c0 c1 c2 c3 c4 c5 c6 c7
    by_cases hkl:k<l.length
    ·have hki:(k:Int)<(l.length:Int):=by omega
     have hk63:(k:Int)<9223372036854775807:=by omega
     obtain ⟨b,o,c,he,hbl,hlc,hcm,ns',ls',hrg,hrd⟩:=hr.out.at k hkl
     have he':=Value.slice.inj he
     obtain ⟨rfl,_,rfl⟩:=he'
     clear he
     obtain ⟨q0,q1,q2,q3,q4,q5,q6,q7,q8⟩:=range9 (rangeAt_below hrg H.out.2.1 hbl)
     have hrd':=hide (hrd.below H.out.2.1)
     obtain ⟨a1,m1,d1,a2,m2,d2,rfl,rfl⟩:=hrd.shape
     clear hrg hrd
     have hcall:=hide (ih'.out l[k] (.slice a1 m1 d1) (.slice a2 m2 d2) wr hrd'.out)
     cases hm:mny n l[k]
     ·rw [hm] at hcall
      have hm':=hide hm
      clear hm
      go_wp2_with (go_at_call 22;refine hcall.out.mono ?_;rintro e w1 ⟨rfl,hb1⟩)
      refine ⟨⟨k + 1,by go_num,by omega,?_,below_then H.out.2.1 hb1,H.out.2.2.below hb1⟩,by simp [intOf];omega⟩
      rw [List.take_succ_eq_append_getElem hkl,List.any_append,H.out.1]
      have:=hm'.out
      simp only [List.any_cons,List.any_nil,Bool.or_false,Bool.false_or]
      exact this
     ·rw [hm] at hcall
      have hm':=hide hm
      clear hm
      go_wp2_with (go_at_call 22;refine hcall.out.mono ?_;rintro e w1 ⟨rfl,hb1⟩)
      go_ret
      exact ⟨by rw [hD'.out,any_at hkl hm'.out];rfl,below_then H.out.2.1 hb1⟩
    ·have hki:¬ ((k:Int)<(l.length:Int)):=by omega
     have hE:=H.out.1
     rw [List.take_of_length_le (by omega)] at hE
     have hE':=hide hE
     clear hE
     go_wp2_with fail
     go_ret
     exact ⟨by rw [hD'.out,hE'.out];rfl,H.out.2.1⟩
set_option maxRecDepth 100000 in
theorem big_any (n:Nat) (x:VT n) (ns ls:Value) (w:World) (hr:RD n w x ns ls) (hz:Sz n x) :
  Calls Tryz.prog 8 #[.agg (vals (vhd n x) ns ls)] w fun e w'=>∃ b,e=.returned (.bool b)∧Hid (b=false→blk n x≤65536∧mny n x=false)∧Below w.heap.size w w':=by
 obtain ⟨a1,m1,d1,a2,m2,d2,rfl,rfl⟩:=hr.shape
 obtain ⟨h,hh⟩:∃ h,vhd n x=h:=⟨_,rfl⟩
 have hP:=hide (fun o=>parts_any n x (.slice a1 m1 d1) (.slice a2 m2 d2) (w.alloc o) 0 0 (hr.below (below_al (Below.refl _ _))) hz (by omega) (by omega))
 have hM:=hide (fun W (hb:Below w.heap.size w W)=>many_any n x (.slice a1 m1 d1) (.slice a2 m2 d2) W (hr.below hb))
 have hB0:=hide (bx_new w h (.slice a1 m1 d1) (.slice a2 m2 d2))
 rw [hh] at hP hM ⊢
 clear hr hz hh
 show Calls _ _ #[.agg #[.int .i64 h.kind,.bool h.flag,.bool h.neg,.string h.dig,.int .i64 h.exp,.int .u64 h.bits,.string h.text,.slice a1 m1 d1,.slice a2 m2 d2]] _ _
 go_enter Tryz.func8, Tryz.ntmps8
 go_wp2_with fail
 refine (hP.out _).mono ?_
 rintro e w1 ⟨p,rfl,H,hb1⟩
 have hb2:=hide (below_then (below_al (o:=.cells (vals h (.slice a1 m1 d1) (.slice a2 m2 d2)) 29) (Below.refl w.heap.size w)) hb1)
 obtain ⟨c0,c1,c2,c3,c4,c5,c6,c7,c8⟩:=(hB0.out.below hb1).cells
 have hcall:=hide (hM.out w1 hb2.out)
 by_cases hp:(65536:Int)<(p:Int)
 ·go_wp2_with (go_at_call 22;refine hcall.out.mono ?_;rintro e w2 ⟨rfl,hb3⟩)
  go_ret
  exact ⟨true,rfl,(fun h=>by cases h),hb2.out⟩
 ·cases hm:mny n x
  ·rw [hm] at hcall
   go_wp2_with (go_at_call 22;refine hcall.out.mono ?_;rintro e w2 ⟨rfl,hb3⟩)
   go_ret
   exact ⟨false,ret_bool (decide_eq_false (by omega)),(fun h=>⟨by have:=H.out.1 (by omega);omega,hm⟩),below_then hb2.out hb3⟩
  ·rw [hm] at hcall
   go_wp2_with (go_at_call 22;refine hcall.out.mono ?_;rintro e w2 ⟨rfl,hb3⟩)
   go_ret
   exact ⟨true,rfl,(fun h=>by cases h),below_then hb2.out hb3⟩
def scs (l:List ByteArray):List Value:=l.map Value.string
theorem info9:(Tryz.prog.info? 9).map (fun i=>(i.zero,i.size,i.bytes))=some (some (.string ⟨#[]⟩),1,16):=by kernel_rfl
def OwnS (W:World) (B:Nat) (v:Value) (l:List ByteArray):Prop:=W.ownsRow B 9 1 v l.length (scs l)
theorem infoVV:(Tryz.prog.info? 29).map (fun i=>(i.zero,i.size,i.bytes))=some (some (.agg #[.int .i64 0,.bool false,.bool false,.string ⟨#[]⟩,.int .i64 0,.int .u64 0,.string ⟨#[]⟩,.slice none 0 0,.slice none 0 0]),9,120):=by kernel_rfl
section
variable {w : World} {ops : Array Oper} {rest : List Oper} {o : Oper} {a : Act} {Q : Exit → Act → World → Prop}
theorem app_v (hgd:o.guard=none) (s x:Operand) (ho:o.op=.call {callee:=.builtin .append,args:=#[s,x],argTypes:=#[27,27]})
  (B:Nat) (v:Value) (n:Nat) (xs:List Value) (hs:a.eval s=v) (hown:w.ownsRow B 29 9 v n xs) (g c:Nat) (hx:a.eval x=.slice (some ⟨g,0,none⟩) 1 c) (hd:Hd) (ns ls:Value) (hn:ns.oneCell'=true) (hl:ls.oneCell'=true)
  (hnews:w.rangeAt g 0 (vals hd ns ls).toList) (hm:n≤200000) (hB:B≤w.heap.size)
  (h:∀ av c' w',Hid (w'.ownsRow B 29 9 (.slice av (n + 1) c') (n + 1) (xs++(vals hd ns ls).toList))→Hid (w.grownBy w' v.ownBlock)→Hid ((Value.slice av (n + 1) c').ownBlock=v.ownBlock∨(Value.slice av (n + 1) c').ownBlock=some w.heap.size)→wpList Tryz.prog ops Q rest (a.put o.dst (.slice av (n + 1) c')) w'):wpList Tryz.prog ops Q (o :: rest) a w:=by
 obtain ⟨i0,hi,hz0,hz1,hz2⟩:=info_parts infoVV
 refine wpList_append_own_at w hgd s x 27 ho B 29 i0 _ 9 120 Tryz.underlying27 hi hz0 hz1 hz2 rfl (by decide) v n xs hs hown ⟨g,0,none⟩ 1 c (vals hd ns ls).toList hx rfl ?_ ?_ ?_ ?_ hB ?_
 ·intro j u hj
  have:=hnews j u hj
  rw [show (⟨g,0,none⟩:Addr).add j=⟨g,0 + j,none⟩ by unfold Addr.add;split <;> simp_all]
  exact this
 ·intro u hu
  simp only [vals,List.mem_cons,List.not_mem_nil,or_false] at hu
  rcases hu with rfl|rfl|rfl|rfl|rfl|rfl|rfl|rfl|rfl
  all_goals first|rfl|exact hn|exact hl
 ·unfold maxLen;omega
 ·omega
 ·intro v' w' h1 h2 h3 h4
  rcases h1.2 with ⟨rfl,e⟩|⟨g',cap,cur,rfl,_⟩
  ·omega
  ·exact h _ _ w' h1 h2 h4
end
def KR (n:Nat) (W:World) (x:VT n) (ns ls:Value) (s e:Nat):Prop:=s≤e∧e≤W.heap.size∧∀ W':World,(∀ k,s≤k→k<e→W'.heap[k]?=W.heap[k]?)→RD n W' x ns ls
theorem KR.move {n:Nat} {W W1:World} {x:VT n} {ns ls:Value} {s e:Nat} (h:KR n W x ns ls s e) (hs:e≤W1.heap.size) (hb:∀ k,s≤k→k<e→W1.heap[k]?=W.heap[k]?):KR n W1 x ns ls s e :=
 ⟨h.1,hs,fun W' h'=>h.2.2 W' fun k h1 h2=>(h' k h1 h2).trans (hb k h1 h2)⟩
theorem KR.rd {n:Nat} {W:World} {x:VT n} {ns ls:Value} {s e:Nat} (h:KR n W x ns ls s e):RD n W x ns ls:=h.2.2 W fun _ _ _=>rfl
theorem ownsRow_of {W W1:World} {B:Nat} {T:TypeId} {sz:Nat} {v:Value} {n:Nat} {xs:List Value} (h:W.ownsRow B T sz v n xs) (hb:∀ k,v.ownBlock=some k→k<W.heap.size→W1.heap[k]?=W.heap[k]?):W1.ownsRow B T sz v n xs:=by
 have hr:=World.ownsRow.lt h
 obtain ⟨h0,h⟩:=h
 refine ⟨h0,?_⟩
 rcases h with ⟨rfl,e⟩|⟨g,cap,cur,rfl,h2,h3,h4⟩
 ·exact Or.inl ⟨rfl,e⟩
 ·exact Or.inr ⟨g,cap,cur,rfl,h2,by rw [hb g rfl (hr g rfl).2];exact h3,h4⟩
theorem Bx.frz {W:World} {i:Nat} {h:Hd} {ns ls:Value} (q:Bx W i h ns ls) (j:Nat):W.frozen? ⟨i,j,none⟩=false:=by
 have:=q.at_
 simp [World.frozen?,this]
theorem heap_set_ne {W:World} {i o q:Nat} {u:Value} (h:q≠i):(W.setCell ⟨i,o,none⟩ u).heap[q]?=W.heap[q]?:=Below.heap_setCell _ _ _ _ h
theorem range_new (w:World) (h:Hd) (ns ls:Value):(w.alloc (.cells (vals h ns ls) 29)).rangeAt w.heap.size 0 (vals h ns ls).toList:=(bx_new w h ns ls).range
def Sto (p:Prop):Prop:=p
theorem Sto.out {p:Prop} (h:Sto p):p:=h
theorem Sto.mk {p:Prop} (h:p):Sto p:=h
def WB (W:World) (i:Nat) (A:List UInt8):Prop:=∃ v,W.heap[i]?=some (.cells #[v] 82 (0,0))∧Own W (i + 1) v A
def pan (E:Int):List PanicEntry:=[{v:=.iface 33 (.int .i64 E),recovered:=false}]
def FW (i:Nat) (W w':World):Prop:=Below i W w'∧∀ v,W.heap[i]?=some (.cells #[v] 82 (0,0)) →
 (∀ q,q<W.heap.size→q≠i→v.ownBlock≠some q→w'.heap[q]?=W.heap[q]?)∧∃ v',w'.heap[i]?=some (.cells #[v'] 82 (0,0))∧(v'.ownBlock=v.ownBlock∨∀ g,v'.ownBlock=some g→W.heap.size≤g)
theorem FW.refl (i:Nat) (W:World):FW i W W:=⟨Below.refl _ _,fun v h=>⟨fun _ _ _ _=>rfl,v,h,Or.inl rfl⟩⟩
theorem FW.trans {i:Nat} {W w1 w2:World} (h:FW i W w1) (k:FW i w1 w2):FW i W w2:=by
 refine ⟨h.1.trans k.1,fun v hv=>?_⟩
 obtain ⟨h1,v1,hv1,ho1⟩:=h.2 v hv
 obtain ⟨k1,v2,hv2,ho2⟩:=k.2 v1 hv1
 have z:=h.1.size
 refine ⟨fun q q1 q2 q3=>(k1 q (by omega) q2 (fun e=>?_)).trans (h1 q q1 q2 q3),v2,hv2,?_⟩
 ·rcases ho1 with o|o
  ·exact q3 (o ▸ e)
  ·have:=o q e;omega
 ·rcases ho2 with o2|o2
  ·rcases ho1 with o1|o1
   ·exact Or.inl (o2.trans o1)
   ·exact Or.inr fun g e=>o1 g (o2 ▸ e)
  ·exact Or.inr fun g e=>Nat.le_trans z (o2 g e)
theorem FW.of {i:Nat} {W w1:World} (h:Below W.heap.size W w1) (hi:i<W.heap.size):FW i W w1 :=
 ⟨h.mono (Nat.le_of_lt hi),fun v hv=>⟨fun q q1 _ _=>h.block q q1,v,(h.block i hi).trans hv,Or.inl rfl⟩⟩
def NB (q:Nat) (W:World) (i:Nat):Prop:=q<W.heap.size∧q≠i∧∃ v,W.heap[i]?=some (.cells #[v] 82 (0,0))∧v.ownBlock≠some q
theorem FW.kept {i q:Nat} {W w':World} (h:FW i W w') (n:NB q W i):w'.heap[q]?=W.heap[q]?∧NB q w' i:=by
 obtain ⟨n1,n2,v,hv,n3⟩:=n
 obtain ⟨h1,v',hv',ho⟩:=h.2 v hv
 refine ⟨h1 q n1 n2 n3,Nat.lt_of_lt_of_le n1 h.1.size,n2,v',hv',fun e=>?_⟩
 rcases ho with o|o
 ·exact n3 (o ▸ e)
 ·have:=o q e;omega
def WO (i:Nat) (A T:List UInt8) (W:World) (e:Ending) (w':World):Prop :=
 FW i W w'∧((A.length + T.length≤65536∧e=.returned (.tuple #[])∧WB w' i (A++T))∨(65536<A.length + T.length∧e=.panicked (pan 2)))
theorem WB.lt {W:World} {i:Nat} {A:List UInt8} (h:WB W i A):i<W.heap.size:=by
 obtain ⟨v,h1,_⟩:=h
 exact (Array.getElem?_eq_some_iff.1 h1).1
theorem NB.new {W:World} {i:Nat} {A:List UInt8} {o:Obj} (h:WB W i A):NB W.heap.size (W.alloc o) i:=by
 have hlt:=h.lt
 obtain ⟨v,h1,h2⟩:=h
 exact ⟨by simp,by omega,v,(Below.heap_alloc _ _ _ hlt).trans h1,fun e=>by have:=(World.ownsRow.lt h2 _ e).2;omega⟩
theorem str_at {P:Program} (w:World) (base:Nat) (t u ty e:TypeId) (i:TypeInfo) (ht:P.underlying t=some (.slice e)) (hu:P.underlying u=some .string) (hi:P.info? e=some i) (hz:i.zero=some (.int .u8 0))
  (hsize:i.size=1) (hby:i.bytes=1) (v:Value) (n:Nat) (xs:List Value) (hown:w.ownsRow base e 1 v n xs) (s:ByteArray) (hbytes:n + s.size≤140737488355328)
  (v':Value) (w':World) (h:(Builtin.append_ #[t,u] ty #[v,.string s]).run P w=.ok v' w'):v'.ownBlock=v.ownBlock∨v'.ownBlock=some w.heap.size:=by
 have hxl:xs.length=n:=by simpa using hown.1
 rcases hown.2 with ⟨rfl,rfl⟩|⟨g,cap,cur,rfl,hbg,hg,hnc,hcm,hcs,htake⟩
 ·by_cases hm:s.size=0
  ·have hf:=Lib.run_firstCells_string (P:=P) w 1 s
   rw [hm] at hf
   have:(Builtin.append_ #[t,u] ty #[.slice none 0 0,.string s]).run P w=.ok (.slice none 0 0) w:=by
    simp [Builtin.append_,run_underlying ht,run_underlying hu,sizeOf,typeInfo,hi,hsize,Builtin.lenOf,hm,hf]
   rw [this] at h
   cases h
   exact Or.inl rfl
  ·have hr:=run_append_nil_string (P:=P) w t u ty e i (.int .u8 0) ht hu hi hz s (by omega) (by omega) (by rw [hby];omega)
   rw [hr] at h
   cases h
   exact Or.inr rfl
 ·by_cases hroom:n + s.size≤cap
  ·have hcs':cur.size=cap:=by simpa using hcs
   have hr:=Lib.run_append_room_string (P:=P) w t u ty e i ht hu hi hsize g n cap cur hg s hroom (by omega)
   rw [hr] at h
   cases h
   exact Or.inl rfl
  ·have holds:∀ j u,xs[j]?=some u→w.cell? ((⟨g,0,none⟩:Addr).add j)=some u:=hown.cells (g:=g) rfl
   have hr:=Lib.run_append_grow_string (P:=P) w t u ty e i (.int .u8 0) ht hu hi hz ⟨g,0,none⟩ n cap xs (by rw [hsize];simpa using hxl) holds s (by omega) (by omega) (by rw [hby];exact growslice_fits (by omega) (by omega))
   rw [hr] at h
   cases h
   exact Or.inr rfl
theorem app_str2 {w:World} {ops:Array Oper} {rest:List Oper} {o:Oper} {a:Act} {Q:Exit→Act→World→Prop} (hgd:o.guard=none) (sl x:Operand) (ho:o.op=.call {callee:=.builtin .append,args:=#[sl,x],argTypes:=#[32,9]})
  (B:Nat) (v:Value) (l:List UInt8) (hs:a.eval sl=v) (hown:Own w B v l) (s:ByteArray) (hx:a.eval x=.string s) (hl:l.length + s.size≤100000) (hB:B≤w.heap.size)
  (h:∀ v' w',Hid (Own w' B v' (l++bl s))→Hid (w.grownBy w' v.ownBlock)→Hid (v'.ownBlock=v.ownBlock∨v'.ownBlock=some w.heap.size)→wpList Tryz.prog ops Q rest (a.put o.dst v') w'):wpList Tryz.prog ops Q (o :: rest) a w:=by
 obtain ⟨i0,hi,hz0,hz1,hz2⟩:=info_parts info5
 refine wpList_plain hgd fun K hK=>?_
 obtain ⟨v',w',hr,h2,h3,h4⟩:=Lib.run_append_own_string (P:=Tryz.prog) w B 32 9 o.type 5 i0 Tryz.underlying32 Tryz.underlying9 hi hz0 hz1 hz2 v l.length (bcs l) hown s (by unfold maxLen;omega) (by omega) hB
 have hat:=str_at (P:=Tryz.prog) w B 32 9 o.type 5 i0 Tryz.underlying32 Tryz.underlying9 hi hz0 hz1 hz2 v l.length (bcs l) hown s (by omega) v' w' hr
 unfold Oper.wp execOp
 simp only [ho,resolve,invoke,builtin,Sem.run_bind,Sem.run_pure,Result.andThen_ok,List.map_toArray,List.map_cons,List.map_nil,hs,hx,hr]
 refine hK _ _ (h v' w' ?_ h3 hat)
 show Own _ _ _ _
 unfold Own
 rw [bcs_append,List.length_append,bl_length,←strCells_bcs];exact h2
set_option maxRecDepth 100000 in
theorem put_all (s:ByteArray) (A:List UInt8) (W:World) (i:Nat) (h:WB W i A) (hA:A.length≤65536) :
  Calls Tryz.prog 40 #[.pointer (some ⟨i,0,none⟩),.string s] W fun e w'=>WO i A (bl s) W e w':=by
 have hlt:=h.lt
 obtain ⟨v,h1,h2⟩:=h
 obtain ⟨a,c,rfl⟩:∃ a c,v=.slice a A.length c:=by
  rcases h2.2 with ⟨rfl,e⟩|⟨g,cap,cur,rfl,_⟩
  ·exact ⟨none,0,by rw [e]⟩
  ·exact ⟨_,_,rfl⟩
 have c0:W.cell? ⟨i,0,none⟩=some (.slice a A.length c):=by simp [World.cell?,h1]
 have f0:W.frozen? ⟨i,0,none⟩=false:=by simp [World.frozen?,h1]
 have h1':=hide h1
 have h2':=hide h2
 have hbl:=hide (bl_length s)
 clear h1 h2
 have hw:IntKind.i64.wrap (65536 - (A.length:Int))=65536 - (A.length:Int):=by rw [IntKind.wrap_i64] <;> omega
 by_cases hbig:(65536:Int) - (A.length:Int)<(s.size:Int)
 ·go_enter Tryz.func40, Tryz.ntmps40
  go_wp2_with fail
  exact ⟨rfl,FW.refl _ _,Or.inr ⟨by rw [hbl.out];omega,rfl⟩⟩
 ·go_enter Tryz.func40, Tryz.ntmps40
  go_wp2_with (at_builtin;refine Sto.out ?_)
  refine Sto.mk ?_
  refine app_str2 rfl (.tmp 18) (.tmp 19) rfl (i + 1) (.slice a A.length c) A rfl h2'.out s rfl (by omega) (by omega) ?_
  intro v' w' ho hg hat
  have hz:=hg.out.size
  have hll:=World.ownsRow.lt h2'.out
  have hblk:Hid (w'.heap[i]?=some (.cells #[.slice a A.length c] 82 (0,0))):=(hg.out.block i hlt (fun q=>by have:=(hll i q.symm).1;omega)).trans h1'.out
  have c1:w'.cell? ⟨i,0,none⟩=some (.slice a A.length c):=by simp [World.cell?,hblk.out]
  have f1:w'.frozen? ⟨i,0,none⟩=false:=by simp [World.frozen?,hblk.out]
  have ho':v'.oneCell'=true:=by
   rcases ho.out.2 with ⟨rfl,e⟩|⟨g,cap,cur,rfl,_⟩
   ·rfl
   ·rfl
  clear c0 f0
  obtain ⟨a2,n2,c2,rfl⟩:∃ a2 n2 c2,v'=.slice a2 n2 c2:=by
   rcases ho.out.2 with ⟨rfl,e⟩|⟨g,cap,cur,rfl,_⟩
   ·exact ⟨_,_,_,rfl⟩
   ·exact ⟨_,_,_,rfl⟩
  have hn2:n2=(A++bl s).length:=by
   have:=ho.out.1
   rcases ho.out.2 with ⟨e,e2⟩|⟨g,cap,cur,e,_⟩
   ·cases e;exact e2.symm
   ·cases e;rfl
  have hn2':=hide hn2
  clear hn2
  go_wp2_with fail
  go_end0
  have hblk2:(w'.setCell ⟨i,0,none⟩ (.slice a2 n2 c2)).heap[i]?=some (.cells #[.slice a2 n2 c2] 82 (0,0)):=by
   rw [setCell_eq_setRow w' i 0 _ _ (0,0) _ hblk.out,setRow_heap w' i _ _ _ (0,0) hblk.out]
   rfl
  refine ⟨⟨((Below.refl i W).grown hg.out (by omega) (fun g e=>by have:=(hll g e).1;omega)).setCell (p:=⟨i,0,none⟩) (Nat.le_refl i) _,fun v hv=>?_⟩,Or.inl ⟨by rw [hbl.out];omega,rfl,.slice a2 n2 c2,hblk2,?_⟩⟩
  ·have hv2:v=.slice a A.length c:=by
    rw [h1'.out] at hv
    cases hv
    rfl
   subst hv2
   refine ⟨fun q q1 q2 q3=>?_,_,hblk2,?_⟩
   ·rw [heap_set_ne q2,hg.out.block q q1 (fun e=>q3 e.symm)]
   ·rcases hat.out with e|e
    ·exact Or.inl e
    ·exact Or.inr fun g hg'=>by rw [e] at hg';cases hg';exact Nat.le_refl _
  ·have:=ho.out
   unfold Own at this ⊢
   exact ownsRow_of this fun g e hg=>heap_set_ne (by have:=(World.ownsRow.lt ho.out g e).1;omega)
theorem put_any (s:ByteArray) (A:List UInt8) (W:World) (i:Nat) (h:WB W i A) (hA:A.length≤65536) (hs:s.size≤281474976710656) :
  Calls Tryz.prog 40 #[.pointer (some ⟨i,0,none⟩),.string s] W fun e w'=>WO i A (bl s) W e w':=put_all s A W i h hA
def powered (l:List UInt8) (p:List UInt8):List UInt8:=l.take 1++(if 1<l.length then 46 :: l.drop 1 else [])++101 :: p
def val:List Nat→Nat
 | []=>0
 | d :: l=>d * 10 ^ l.length + val l
theorem val_append (a b:List Nat):val (a++b)=val a * 10 ^ b.length + val b:=by
 induction a with
 | nil=>simp [val]
 | cons d a ih =>
  simp only [List.cons_append,val,ih,List.length_append,Nat.add_mul,Nat.pow_add,Nat.mul_assoc]
  omega
def Dgs (l:List Nat):Prop:=∀ d∈l,d≤9
theorem Dgs.cons {d:Nat} {l:List Nat} (h:Dgs (d :: l)):d≤9∧Dgs l:=⟨h d (by simp),fun x hx=>h x (by simp [hx])⟩
theorem val_lt (l:List Nat) (h:Dgs l):val l<10 ^ l.length:=by
 induction l with
 | nil=>simp [val]
 | cons d l ih =>
  obtain ⟨h1,h2⟩:=h.cons
  have:=ih h2
  simp only [val,List.length_cons,Nat.pow_succ]
  have h3:d * 10 ^ l.length≤9 * 10 ^ l.length:=Nat.mul_le_mul_right _ h1
  omega
theorem val_zeros (n:Nat):val (List.replicate n 0)=0:=by
 induction n with
 | zero=>rfl
 | succ n ih=>simp [List.replicate_succ,val,ih]
theorem val_zero_left (n:Nat) (l:List Nat):val (List.replicate n 0++l)=val l:=by rw [val_append,val_zeros];simp
theorem val_zero_right (n:Nat) (l:List Nat):val (l++List.replicate n 0)=val l * 10 ^ n:=by rw [val_append,val_zeros];simp
def dg (s:ByteArray):List Nat:=(bl s).map fun c=>c.toNat - 48
theorem dg_length (s:ByteArray):(dg s).length=s.size:=by simp [dg,bl_length]
theorem dg_get (s:ByteArray) (k:Nat) (h:k<s.size):(dg s)[k]'(by rw [dg_length];exact h)=s[k].toNat - 48:=by
 simp only [dg,List.getElem_map]
 rw [bl_get s k h]
theorem dg_dgs (s:ByteArray) (h:allD (bl s)=true):Dgs (dg s):=by
 intro d hd
 simp only [dg,List.mem_map] at hd
 obtain ⟨c,hc,rfl⟩:=hd
 have:=(isDig_iff c).1 ((List.all_eq_true.1 h) c hc)
 omega
theorem allD_get (s:ByteArray) (h:allD (bl s)=true) (k:Nat) (hk:k<s.size):48≤s[k].toNat∧s[k].toNat≤57:=by
 have h1:s[k]∈bl s:=by rw [←bl_get s k hk];exact List.getElem_mem _
 have:=(isDig_iff s[k]).1 ((List.all_eq_true.1 h) _ h1)
 omega
theorem isN_len {n:Bool} {s:ByteArray} {x:Int} (h:isN n s x=true):s.size≤40∧-400≤x∧x≤400:=by
 simp [isN,isZ,isO] at h
 rcases h with ⟨⟨_,h1⟩,h2⟩|h
 ·have:=bl_length s;rw [h1] at this;simp at this;omega
 ·rw [bl_length] at h;omega
def lz (d:List Nat):Nat:=(d.takeWhile (·==0)).length
theorem lz_of (d:List Nat) (k:Nat) (hk:k≤d.length) (h1:∀ i (h:i<d.length),i<k→d[i]=0) (h2:∀ h:k<d.length,d[k]≠0):lz d=k :=
 takeWhile_of _ d k hk (fun j h hj=>by simp [h1 j h hj]) (fun h=>by simpa using h2 h)
def lenOf:Value→Nat | .slice _ m _=>m|_=>0
theorem trimByte_any (b o n c:Nat) (d:List Nat) (w:World) (hd:d.length=n) (hn0:0<n) (hn:n≤100000) (hc:n≤c) (hc':c≤100000)
  (hcell:∀ i (h:i<d.length),w.cell? ⟨b,o + i,none⟩=some (.int .u8 (d[i]:Nat))) :
  Calls Tryz.prog 194 #[.slice (some ⟨b,o,none⟩) n c,.int .u8 0] w fun e w'=>(lz d<n→e=.returned (.slice (some ⟨b,o + lz d,none⟩) (n - lz d) (c - lz d)))∧(lz d=n→e=.returned (.slice none 0 0))∧w'=w:=by
 go_enter Tryz.func194, Tryz.ntmps194
 go_wp2
 go_loop [0] (fun s=>∃ k:Nat,k≤n∧(∀ i (h:i<d.length),i<k→d[i]=0)∧((k<n∧s=.slice (some ⟨b,o + k,none⟩) (n - k) (c - k))∨(k=n∧∃ a cc,s=.slice a 0 cc))) (fun s=>lenOf s)
 case atStart=>exact ⟨0,Nat.zero_le _,fun i h hi=>by omega,Or.inl ⟨hn0,rfl⟩⟩
 case round =>
  obtain ⟨k,hk,hz,hs⟩:=hrel
  rcases hs with ⟨hlt,rfl⟩|⟨rfl,a,cc,rfl⟩
  ·have hck:=hcell k (by omega)
   by_cases h0:d[k]'(by omega)=0
   ·rw [h0] at hck
    have hz':∀ i (h:i<d.length),i<k + 1→d[i]=0:=fun i h hi=>by
     by_cases e:i=k
     ·subst e;exact h0
     ·exact hz i h (by omega)
    have hz':=hide hz'
    go_wp2
    refine ⟨⟨k + 1,by omega,hz'.out,?_⟩,by simp [lenOf];omega⟩
    by_cases hl:k + 1<n
    ·exact Or.inl ⟨hl,by rw [if_neg (by omega)];simp [Nat.sub_sub,Nat.add_assoc]⟩
    ·exact Or.inr ⟨by omega,_,_,by rw [show n - k - 1=0 by omega]⟩
   ·have h1:((d[k]'(by omega):Int)==0)=false:=by simp;exact h0
    have h2:(((n - k:Nat):Int)==0)=false:=by simp;omega
    have hl:=hide (lz_of d k (by omega) hz (fun _=>h0))
    clear h0
    go_wp2
    go_ret
    exact ⟨fun _=>by rw [hl.out];rfl,fun h=>by rw [hl.out] at h;omega,rfl⟩
  ·have hl:=hide (lz_of d k (by omega) hz (fun h=>by omega))
   go_wp2
   go_ret
   exact ⟨fun h=>by rw [hl.out] at h;omega,fun h=>rfl,rfl⟩
set_option maxRecDepth 100000 in
theorem trimLeft_any (b o n c:Nat) (d:List Nat) (w:World) (hd:d.length=n) (hn0:0<n) (hn:n≤100000) (hc:n≤c) (hc':c≤100000)
  (hcell:∀ i (h:i<d.length),w.cell? ⟨b,o + i,none⟩=some (.int .u8 (d[i]:Nat))) :
  Calls Tryz.prog 192 #[.slice (some ⟨b,o,none⟩) n c,.string ⟨#[0]⟩] w fun e w'=>(lz d<n→e=.returned (.slice (some ⟨b,o + lz d,none⟩) (n - lz d) (c - lz d)))∧(lz d=n→e=.returned (.slice none 0 0))∧w'=w:=by
 have h2:((n:Int)==0)=false:=by simp;omega
 have hcell:=hide hcell
 by_cases hl:lz d<n
 ·go_enter Tryz.func192, Tryz.ntmps192
  go_wp2_with (go_at_call 194;refine (trimByte_any b o n c d _ hd hn0 hn hc hc' hcell.out).mono ?_;rintro e w' ⟨h1,_,rfl⟩;obtain rfl:=h1 hl)
  go_ret
  exact ⟨fun _=>rfl,fun h=>by omega,rfl⟩
 ·have hl':Hid (lz d=n):=by
   have:lz d≤n:=by
    unfold lz;rw [←hd];exact (List.takeWhile_prefix _).length_le
   show lz d=n
   omega
  go_enter Tryz.func192, Tryz.ntmps192
  go_wp2_with (go_at_call 194;refine (trimByte_any b o n c d _ hd hn0 hn hc hc' hcell.out).mono ?_;rintro e w' ⟨_,h1,rfl⟩;obtain rfl:=h1 hl'.out)
  go_ret
  exact ⟨fun h=>by omega,fun _=>rfl,rfl⟩
def mkS (l:List Nat):ByteArray:=strOfNums (l.map fun v:Nat=>((v:Int) + 48))
def formE (ok neg:Bool) (s:ByteArray) (x:Int):Ending :=
 if ok then .returned (.tuple #[.agg #[.bool neg,.string s,.int .i64 x],.int .i64 0]) else .returned (.tuple #[.agg #[.bool false,.string ⟨#[]⟩,.int .i64 0],.int .i64 2])
def tz (d:List Nat):Nat:=lz d.reverse
theorem tz_of (d:List Nat) (m k:Nat) (hm:d.length=m) (hk:k<m) (h1:∀ i (h:i<d.length),m - k≤i→d[i]=0) (h2:d[m - k - 1]'(by omega)≠0):tz d=k:=by
 refine lz_of d.reverse k (by simp;omega) (fun i h hi=>?_) (fun h=>?_)
 ·rw [List.getElem_reverse]
  exact h1 _ _ (by simp at h;omega)
 ·rw [List.getElem_reverse]
  have e:d.length - 1 - k=m - k - 1:=by omega
  simp only [e];exact h2
theorem lz_ne (d:List Nat) (h:lz d<d.length):d[lz d]≠0:=by
 intro h0
 have key:∀ (l:List Nat) (h:(l.takeWhile (·==0)).length<l.length),l[(l.takeWhile (·==0)).length]≠0:=by
  intro l
  induction l with
  | nil=>intro h;simp at h
  | cons a l ih =>
   intro h
   by_cases ha:a=0
   ·subst ha
    simp only [List.takeWhile_cons,beq_self_eq_true,if_true,List.length_cons,List.getElem_cons_succ]
    exact ih (by simpa using h)
   ·simp [ha]
 exact key d h h0
set_option maxRecDepth 100000 in
theorem form_zero (neg:Bool) (b o n c:Nat) (d:List Nat) (x:Int) (w:World) (hd:d.length=n) (hn0:0<n) (hn:n≤100000) (hc:n≤c) (hc':c≤100000) (hb:b<w.heap.size)
  (hcell:∀ i (h:i<d.length),w.cell? ⟨b,o + i,none⟩=some (.int .u8 (d[i]:Nat))) (hz:lz d=n) :
  Calls Tryz.prog 177 #[.bool neg,.slice (some ⟨b,o,none⟩) n c,.int .i64 x] w fun e w'=>e=.returned (.tuple #[.agg #[.bool false,.string ⟨#[48]⟩,.int .i64 0],.int .i64 0])∧Below w.heap.size w w':=by
 have hcell':∀ cs T,∀ i (h:i<d.length),(w.alloc (.cells cs T)).cell? ⟨b,o + i,none⟩=some (.int .u8 (d[i]:Nat)):=fun cs T i h=>by
  rw [←hcell i h];exact ((Below.refl w.heap.size w).alloc (Nat.le_refl _) _).cell (p:=⟨b,o + i,none⟩) hb
 have hcell':=hide hcell'
 have hz:=hide hz
 clear hcell
 go_enter Tryz.func177, Tryz.ntmps177
 go_wp2_with (go_at_call 192;refine (trimLeft_any b o n c d _ hd hn0 hn hc hc' (hcell'.out _ _)).mono ?_;rintro e w' ⟨_,h1,rfl⟩;obtain rfl:=h1 hz.out)
 exact bodyPost_ret (v:=.tuple #[.agg #[.bool false,.string ⟨#[48]⟩,.int .i64 0],.int .i64 0]) (by simp [results,Tryz.results177,go_sem]) rfl ⟨rfl,(Below.refl _ _).alloc (Nat.le_refl _) _⟩
set_option maxRecDepth 100000 in
theorem form_some (neg:Bool) (b o n c:Nat) (d d1 d2:List Nat) (m k1:Nat) (x:Int) (w:World) (hd:d.length=n) (hn:n≤100000) (hc:n≤c) (hc':c≤100000) (hb:b<w.heap.size)
  (hcell:∀ i (h:i<d.length),w.cell? ⟨b,o + i,none⟩=some (.int .u8 (d[i]:Nat))) (hz:lz d<n) (hx:-1000000≤x) (hx':x≤1000000)
  (hd1:d1=d.drop (lz d)) (hm:m=n - lz d) (hk1:k1=tz d1) (hd2:d2=d1.take (m - k1)) (hdg:Dgs d) (fit:Bool) (hfit:fit=decide (d2.length≤40∧-400≤x + k1∧x + k1≤400)) :
  Calls Tryz.prog 177 #[.bool neg,.slice (some ⟨b,o,none⟩) n c,.int .i64 x] w fun e w'=>
   e=formE fit neg (mkS d2) (x + k1)∧Below w.heap.size w w':=by
 have hcell':∀ cs T,∀ i (h:i<d.length),(w.alloc (.cells cs T)).cell? ⟨b,o + i,none⟩=some (.int .u8 (d[i]:Nat)):=fun cs T i h=>by
  rw [←hcell i h];exact ((Below.refl w.heap.size w).alloc (Nat.le_refl _) _).cell (p:=⟨b,o + i,none⟩) hb
 have hcell':=hide hcell'
 clear hcell
 have hne:Hid (d1[0]?≠some 0):=by
  show d1[0]?≠some 0
  rw [hd1,List.getElem?_drop,List.getElem?_eq_getElem (by omega)]
  have:=lz_ne d (by omega)
  simpa using this
 have hg1:Hid (∀ i (h:i<d1.length) (h':lz d + i<d.length),d1[i]=d[lz d + i]):=by
  show ∀ i (h:i<d1.length) (h':lz d + i<d.length),d1[i]=d[lz d + i]
  intro i h h'
  simp only [hd1,List.getElem_drop]
 have hdd1:=hide hd1
 have hmm:=hide hm
 have hmn:m≤n:=by omega
 have hm0:0<m:=by omega
 have hnc:m + lz d=n:=by omega
 have hz':=hide hz
 have hd1l:d1.length=m:=by rw [hd1,List.length_drop];omega
 obtain ⟨z,hzz⟩:∃ z,lz d=z:=⟨_,rfl⟩
 have hhk:=hide hk1
 have hhd2:=hide hd2
 have hhfit:=hide hfit
 have hdg:=hide hdg
 clear hd1 hk1 hd2 hfit
 have ec:Hid (n - lz d=m∧c - lz d=c - z):=by constructor <;> omega
 rw [hzz] at hnc
 have hzz:=hide hzz
 clear hm hz
 go_enter Tryz.func177, Tryz.ntmps177
 go_wp2_with (go_at_call 192;refine (trimLeft_any b o n c d _ hd (by omega) hn hc hc' (hcell'.out _ _)).mono ?_;rintro e w' ⟨h1,_,rfl⟩;have h1:=h1 hz'.out;rw [ec.out.1,ec.out.2,hzz.out] at h1;obtain rfl:=h1)
 have hmz:((m:Int)==0)=false:=by simp;omega
 go_loop [1,2] (fun s e=>∃ k:Nat,k<m∧s=.slice (some ⟨b,o + z,none⟩) (m - k) (c - z)∧e=.int .i64 (x + k)∧Hid (∀ i (h:i<d1.length),m - k≤i→d1[i]=0)) (fun s _=>lenOf s)
 case atStart=>exact ⟨0,hm0,rfl,by simp,fun i h hi=>by omega⟩
 case round =>
  obtain ⟨k,hk,rfl,rfl,hzr⟩:=hrel
  obtain ⟨q,hq⟩:∃ q,d1[m - k - 1]'(by omega)=q:=⟨_,rfl⟩
  have hcl:=hcell'.out #[Value.bool false,Value.string {data:=#[]},Value.int IntKind.i64 0] 24 (z + (m - k - 1)) (by omega)
  have hq':d[z + (m - k - 1)]'(by omega)=q:=by
   rw [←hq,hg1.out (m - k - 1) (by omega) (by rw [hzz.out];omega)]
   simp only [hzz.out]
  rw [hq',←Nat.add_assoc] at hcl
  have hq:=hide hq
  clear hq'
  by_cases h0:q=0
  ·subst h0
   have hzr':Hid (∀ i (h:i<d1.length),m - (k + 1)≤i→d1[i]=0):=by
    show ∀ i (h:i<d1.length),m - (k + 1)≤i→d1[i]=0
    intro i h hi
    by_cases e:i=m - k - 1
    ·subst e;exact hq.out
    ·exact hzr.out i h (by omega)
   have hk':k + 1<m:=by
    by_cases e:k + 1<m
    ·exact e
    ·have h1:=hzr'.out 0 (by omega) (by omega)
     exact absurd (by rw [List.getElem?_eq_getElem (by omega),h1]) hne.out
   go_wp2
   refine ⟨⟨k + 1,hk',by rw [Nat.sub_sub],?_,hzr'.out⟩,by simp [lenOf];omega⟩
   show Value.int _ _=Value.int _ _
   congr 1
   omega
  ·have h0':((q:Int)==0)=false:=by simp;exact h0
   have hkk:k1=k:=by rw [hhk.out];exact tz_of d1 m k hd1l hk hzr.out (by rw [hq.out];exact h0)
   have hl2:d2.length=m - k:=by rw [hhd2.out,List.length_take,hkk];omega
   subst hkk
   have hl2':=hide hl2
   clear h0
   by_cases h40:40<m - k1
   ·go_wp2
    exact bodyPost_ret (v:=.tuple #[.agg #[.bool false,.string ⟨#[]⟩,.int .i64 0],.int .i64 2]) (by simp [results,Tryz.results177,go_sem]) rfl ⟨by
     have:fit=false:=by rw [hhfit.out];exact decide_eq_false (by omega)
     rw [this];rfl,(Below.refl _ _).alloc (Nat.le_refl _) _⟩
   by_cases he:-400≤x + k1∧x + k1≤400
   ·have e3:decide (-400≤x + k1∧x + k1≤400)=true:=decide_eq_true he
    have hft:Hid (fit=true):=by
     show fit=true
     rw [hhfit.out];exact decide_eq_true ⟨by omega,he⟩
    go_wp2_with (go_at_call 122;refine (expFits_any _ _).mono ?_;rintro e w' ⟨rfl,rfl⟩;rw [e3])
    have hg2:Hid (∀ i (h:i<d2.length) (h':z + i<d.length),d2[i]=d[z + i]):=by
     show ∀ i (h:i<d2.length) (h':z + i<d.length),d2[i]=d[z + i]
     intro i h h'
     simp only [hhd2.out,List.getElem_take]
     rw [hg1.out i (by omega) (by rw [hzz.out];exact h')]
     simp only [hzz.out]
    go_loopw [42] (fun i wr=>∃ k:Nat,k≤m - k1∧i=.int .i64 k∧Hid (Arr wr (w.heap.size + 1) 218 ((d2.take k).map (fun v=>48 + v)++List.replicate (40 - k) 0))∧Hid (Below (w.heap.size + 1) (w.alloc (.cells #[Value.bool false,Value.string {data:=#[]},Value.int IntKind.i64 0] 24)) wr)) (fun i _=>m - k1 - (intOf i).toNat)
    case atStart =>
     refine ⟨0,Nat.zero_le _,rfl,?_,?_⟩
     ·show Arr _ _ _ _
      rw [show w.heap.size + 1=(w.alloc (.cells #[Value.bool false,Value.string {data:=#[]},Value.int IntKind.i64 0] 24)).heap.size from by simp]
      exact arr_new _ _ 40 _ rfl
     ·exact (Below.refl _ _).alloc (by simp) _
    case round =>
     obtain ⟨k,hk,rfl,hAr,hB⟩:=hrel
     by_cases hlt:k<m - k1
     ·have hcl:=hcell'.out #[Value.bool false,Value.string {data:=#[]},Value.int IntKind.i64 0] 24 (z + k) (by omega)
      rw [←hB.out.cell (p:=⟨b,o + (z + k),none⟩) (by show b<_;omega),←hg2.out k (by omega) (by omega),←Nat.add_assoc] at hcl
      have hv9:d2[k]'(by omega)≤9:=by rw [hg2.out k (by omega) (by omega)];exact hdg.out _ (List.getElem_mem _)
      obtain ⟨v,hv⟩:∃ v,d2[k]'(by omega)=v:=⟨_,rfl⟩
      rw [hv] at hcl hv9
      have hcs:=hAr.out.cell k (by simp;omega)
      have hfz:=hAr.out.frozen k
      have hv:=hide hv
      have hset:Hid (((d2.take k).map (fun v=>48 + v)++List.replicate (40 - k) 0).set k (48 + v)=(d2.take (k + 1)).map (fun v=>48 + v)++List.replicate (40 - (k + 1)) 0):=by
       show _=_
       have hlen:((d2.take k).map (fun v=>48 + v)).length=k:=by simp;omega
       rw [List.set_append_right _ _ (by omega),hlen,Nat.sub_self,show 40 - k=(40 - (k + 1)) + 1 by omega,List.replicate_succ,List.set_cons_zero,List.take_succ_eq_append_getElem (by omega),List.map_append,hv.out]
       simp
      go_wp2
      refine ⟨⟨k + 1,by omega,by go_num,?_,?_⟩,by simp [intOf];omega⟩
      ·show Arr _ _ _ _
       rw [←hset.out]
       exact hAr.out.set k (48 + v)
      ·exact hB.out.setCell (Nat.le_refl _) _
     ·have hke:k=m - k1:=by omega
      subst hke
      have htk:d2.take (m - k1)=d2:=List.take_of_length_le (by omega)
      rw [htk] at hAr
      have hconv:(convert 32 9 (.slice (some ⟨w.heap.size + 1,0,none⟩) (m - k1) 40)).run Tryz.prog wr=.ok (.string (mkS d2)) wr:=by
       refine run_convert_bytes_arg (P:=Tryz.prog) wr 32 5 Tryz.underlying32 Tryz.underlying5 (w.heap.size + 1) 0 (m - k1) 40 (d2.map fun v:Nat=>((v:Int) + 48)) (by simp;omega) (fun i hi=>?_) 9 Tryz.underlying9
       rw [Nat.zero_add,hAr.out.cell i (by simp;omega)]
       congr 2
       rw [List.getElem_append_left (by simp;omega),List.getElem_map,List.getD_eq_getElem?_getD,List.getElem?_map,List.getElem?_eq_getElem (by omega)]
       simp;omega
      have hr0:=hB.out.cell (p:=⟨w.heap.size,0,none⟩) (Nat.lt_succ_self _)
      have hr1:=hB.out.cell (p:=⟨w.heap.size,1,none⟩) (Nat.lt_succ_self _)
      have hr2:=hB.out.cell (p:=⟨w.heap.size,2,none⟩) (Nat.lt_succ_self _)
      have hf0:=hB.out.frozen (p:=⟨w.heap.size,0,none⟩) (Nat.lt_succ_self _)
      have hf1:=hB.out.frozen (p:=⟨w.heap.size,1,none⟩) (Nat.lt_succ_self _)
      have hf2:=hB.out.frozen (p:=⟨w.heap.size,2,none⟩) (Nat.lt_succ_self _)
      simp [go_sem] at hr0 hr1 hr2 hf0 hf1 hf2
      clear htk
      go_wp2
      refine bodyPost_ret (v:=.tuple #[.agg #[.bool neg,.string (mkS d2),.int .i64 (x + k1)],.int .i64 0]) (by simp [results,Tryz.results177,go_sem,hr0,hr1,hr2]) rfl ⟨by rw [hft.out];rfl,?_⟩
      exact ((((((Below.refl _ w).alloc (Nat.le_refl _) _).trans (hB.out.mono (Nat.le_succ _))).setCell (Nat.le_refl _) _).setCell (Nat.le_refl _) _).setCell (Nat.le_refl _) _)
   ·have e3:decide (-400≤x + k1∧x + k1≤400)=false:=decide_eq_false he
    have hft:Hid (fit=false):=by
     show fit=false
     rw [hhfit.out];exact decide_eq_false (fun h=>he h.2)
    go_wp2_with (go_at_call 122;refine (expFits_any _ _).mono ?_;rintro e w' ⟨rfl,rfl⟩;rw [e3])
    exact bodyPost_ret (v:=.tuple #[.agg #[.bool false,.string ⟨#[]⟩,.int .i64 0],.int .i64 2]) (by simp [results,Tryz.results177,go_sem]) rfl ⟨by
     rw [hft.out];rfl,(Below.refl _ _).alloc (Nat.le_refl _) _⟩
end Go.Proofs.YthodiandebahdaaGreatDoor
