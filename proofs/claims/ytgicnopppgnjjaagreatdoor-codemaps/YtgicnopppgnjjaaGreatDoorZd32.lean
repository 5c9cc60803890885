/- Merged by program: SmBig. -/
import Derived.Test.YtgicnopppgnjjaaGreatDoorZd29
import Derived.Test.YtgicnopppgnjjaaGreatDoorZd26
import Derived.Test.YtgicnopppgnjjaaGreatDoorZd07
set_option linter.unusedSimpArgs false
set_option linter.unusedVariables false
namespace Go.Proofs.YtgicnopppgnjjaaGreatDoor
namespace Lx
open Go.RowKit
set_option maxHeartbeats 1000000 in
set_option maxRecDepth 100000 in
theorem partsE_any:∀ (n:Nat) (x:VT n) (ns ls:Value) (w:World) (m d:Nat),RD n w x ns ls→Sz n x→m≤1125899906842624→d≤301 →
  Calls Tryz.prog 59 #[.agg (vals (vhd n x) ns ls),.int .i64 m,.int .i64 32768,.int .i64 d] w fun e w'=>∃ p:Nat,e=.returned (.int .i64 p)∧Hid ((p≤32768→p=m + blk n x)∧p≤4503599627370496)∧Below w.heap.size w w':=by
 intro n
 induction n with
 | zero=>intro x;exact Empty.elim x
 | succ n ih =>
  intro x ns ls w m d hr hz hm hd
  obtain ⟨h,l⟩:=x
  obtain ⟨al,cl,rfl,hc1,hc2⟩:=hr.len
  obtain ⟨an,cn,rfl,hn1,hn2⟩:=hr.1.len
  obtain ⟨z1,z2,z3,z4,z5⟩:=hz
  have hr:=hide hr
  have ih':=hide ih
  have z4:=hide z4
  have z5:=hide z5
  clear ih
  have hm1:(m:Int)≤1125899906842624:=by omega
  have e1:(h.text.size:Int)≤281474976710656:=by simp only at z1;omega
  have e2:(h.dig.size:Int)≤281474976710656:=by simp only at z2;omega
  have e3:(h.names.length:Int)≤281474976710656:=by simp only at z3;omega
  clear z1 z2 z3
  simp only at hn1 hn2 hc1 hc2
  show Calls _ _ #[.agg #[.int .i64 h.kind,.bool h.flag,.bool h.neg,.string h.dig,.int .i64 h.exp,.int .u64 h.bits,.string h.text,.slice an h.names.length cn,.slice al l.length cl],_,_,_] _ _
  by_cases hd3:(300:Int)<(d:Int)
  ·go_enter Tryz.func59, Tryz.ntmps59
   go_wp2_with fail
   go_ret
   exact ⟨32769,by first|rfl|simp,⟨fun h=>by omega,by omega⟩,by first|exact below_al (Below.refl _ _)|exact Below.refl _ _⟩
  ·have hB0:=hide (bx_new w h (.slice an h.names.length cn) (.slice al l.length cl))
   obtain ⟨q,hq⟩:∃ q:Nat,q=m + 1 + h.text.size + h.dig.size + h.names.length:=⟨_,rfl⟩
   have hqi:(m:Int) + 1 + h.text.size + h.dig.size + h.names.length=(q:Int):=by omega
   have hq2:q≤4503599627370496:=by omega
   have hD:m + blk (n + 1) (h,l)=q + suml (h.names.map ByteArray.size) + suml (l.map (blk n)):=by simp only [blk];omega
   have hq':=hide hq
   have hD':=hide hD
   have hq2':=hide hq2
   clear hq hD hq2
   have ml:maxLen=9223372036854775807:=rfl
   go_enter Tryz.func59, Tryz.ntmps59
   go_wp2_with fail
   go_loopw [1,9] (fun u i w'=>∃ (k p:Nat),u=.int .i64 p∧i=.int .i64 k∧k≤h.names.length∧Hid (p=q + suml ((h.names.map ByteArray.size).take k)∧p≤4503599627370496∧Below w.heap.size w w'∧Bx w' w.heap.size h (.slice an h.names.length cn) (.slice al l.length cl))) (fun _ i _=>h.names.length - (intOf i).toNat)
   case atStart=>exact ⟨0,q,rfl,rfl,Nat.zero_le _,rfl,by have:=hq2'.out;omega,below_al (Below.refl _ _),hB0.out⟩
   case round =>
    obtain ⟨k,p,rfl,rfl,hk,H⟩:=hrel
    obtain ⟨c0,c1,c2,c3,c4,c5,c6,c7,c8⟩:=H.out.2.2.2.cells
    clear c0 c1 c2 c3 c4 c5 c6
    have hp63:(p:Int)≤4503599627370496:=by have:=H.out.2.1;omega
    by_cases hkl:k<h.names.length
    ·have hki:(k:Int)<(h.names.length:Int):=by omega
     by_cases hp:(p:Int)≤32768
     ·obtain ⟨b,o,c,he,hbl,hlc,hcm,hcell⟩:=hr.out.1.at k hkl
      have he':=Value.slice.inj he
      obtain ⟨rfl,_,rfl⟩:=he'
      clear he
      have hcell:=(H.out.2.2.1.cell (p:=⟨b,o + k,none⟩) hbl).trans hcell
      have hz:=z4.out h.names[k] (List.getElem_mem _)
      have hmx:=suml_take (h.names.map ByteArray.size) k (by simpa using hkl)
      rw [List.getElem_map] at hmx
      have hmx':=hide hmx
      obtain ⟨s,hs⟩:∃ s,h.names[k]=s:=⟨_,rfl⟩
      simp only at hcell
      rw [hs] at hcell hz
      have hzi:(s.size:Int)≤281474976710656:=by omega
      have hs':=hide hs
      have hz':=hide hz
      clear hmx hs hz
      go_wp2_with fail
      refine ⟨⟨k + 1,p + s.size,by go_num,by go_num,by omega,?_⟩,by simp [intOf];omega⟩
      refine ⟨?_,by omega,H.out.2.2⟩
      rw [hmx'.out,hs'.out,H.out.1];omega
     ·go_wp2_with fail
      go_loopw [1,10] (fun u i w'=>∃ (k p:Nat),u=.int .i64 p∧i=.int .i64 k∧k≤l.length∧Hid ((p≤32768→p=q + suml (h.names.map ByteArray.size) + suml ((l.map (blk n)).take k))∧p≤4503599627370496∧Below w.heap.size w w'∧Bx w' w.heap.size h (.slice an h.names.length cn) (.slice al l.length cl))) (fun _ i _=>l.length - (intOf i).toNat)
      case atStart=>exact ⟨0,p,rfl,rfl,Nat.zero_le _,fun h=>by omega,H.out.2⟩
      case round =>
       clear H c7 c8 hp63
       obtain ⟨k2,p2,rfl,rfl,hk2,H⟩:=hrel
       obtain ⟨c0,c1,c2,c3,c4,c5,c6,c7,c8⟩:=H.out.2.2.2.cells
       clear c0 c1 c2 c3 c4 c5 c6
       have hp63:(p2:Int)≤4503599627370496:=by have:=H.out.2.1;omega
       by_cases hkl2:k2<l.length
       ·have hki2:(k2:Int)<(l.length:Int):=by omega
        have hk63:(k2:Int)<9223372036854775807:=by omega
        by_cases hp2:(p2:Int)≤32768
        ·obtain ⟨b,o,c,he,hbl,hlc,hcm,ns',ls',hrg,hrd⟩:=hr.out.at k2 hkl2
         have he':=Value.slice.inj he
         obtain ⟨rfl,_,rfl⟩:=he'
         clear he
         obtain ⟨q0,q1,q2,q3,q4,q5,q6,q7,q8⟩:=range9 (rangeAt_below hrg H.out.2.2.1 hbl)
         have hrd':=hide (hrd.below H.out.2.2.1)
         obtain ⟨a1,m1,d1,a2,m2,d2,rfl,rfl⟩:=hrd.shape
         clear hrg hrd
         have hmx:=suml_take (l.map (blk n)) k2 (by simpa using hkl2)
         rw [List.getElem_map] at hmx
         have hcall:=hide (ih'.out l[k2] (.slice a1 m1 d1) (.slice a2 m2 d2) wr p2 (d + 1) hrd'.out (z5.out _ (List.getElem_mem _)) (by omega) (by omega))
         have ed:((d + 1:Nat):Int)=(d:Int) + 1:=by omega
         rw [ed] at hcall
         have hmx':=hide hmx
         have hp2':=hide hp2
         clear hmx ed
         go_wp2_with (go_at_call 59;refine hcall.out.mono ?_;rintro e w1 ⟨p3,rfl,H3,hb1⟩)
         refine ⟨⟨k2 + 1,p3,rfl,by go_num,by omega,?_⟩,by simp [intOf];omega⟩
         refine ⟨fun h3=>?_,H3.out.2,below_then H.out.2.2.1 hb1,H.out.2.2.2.below hb1⟩
         have e3:=H3.out.1 h3
         have e2:=H.out.1 (by have:=hp2'.out;omega)
         have e4:=hmx'.out
         omega
        ·go_wp2_with fail
         go_ret
         exact ⟨p2,rfl,⟨fun h3=>by omega,H.out.2.1⟩,H.out.2.2.1⟩
       ·have hki2:¬ ((k2:Int)<(l.length:Int)):=by omega
        have hD2:m + blk (n + 1) (h,l)=q + suml (h.names.map ByteArray.size) + suml ((l.map (blk n)).take k2):=by
         rw [hD'.out,List.take_of_length_le (by simp;omega)]
        have hD3:=hide hD2
        clear hD2
        go_wp2_with fail
        go_ret
        exact ⟨p2,rfl,⟨fun h3=>by rw [hD3.out];exact H.out.1 h3,H.out.2.1⟩,H.out.2.2.1⟩
    ·have hki:¬ ((k:Int)<(h.names.length:Int)):=by omega
     go_wp2_with fail
     go_loopw [1,10] (fun u i w'=>∃ (k p:Nat),u=.int .i64 p∧i=.int .i64 k∧k≤l.length∧Hid ((p≤32768→p=q + suml (h.names.map ByteArray.size) + suml ((l.map (blk n)).take k))∧p≤4503599627370496∧Below w.heap.size w w'∧Bx w' w.heap.size h (.slice an h.names.length cn) (.slice al l.length cl))) (fun _ i _=>l.length - (intOf i).toNat)
     case atStart=>exact ⟨0,p,rfl,rfl,Nat.zero_le _,fun _=>by rw [H.out.1,List.take_of_length_le (by simp;omega)];simp [suml],H.out.2⟩
     case round =>
      clear H c7 c8 hp63
      obtain ⟨k2,p2,rfl,rfl,hk2,H⟩:=hrel
      obtain ⟨c0,c1,c2,c3,c4,c5,c6,c7,c8⟩:=H.out.2.2.2.cells
      clear c0 c1 c2 c3 c4 c5 c6
      have hp63:(p2:Int)≤4503599627370496:=by have:=H.out.2.1;omega
      by_cases hkl2:k2<l.length
      ·have hki2:(k2:Int)<(l.length:Int):=by omega
       have hk63:(k2:Int)<9223372036854775807:=by omega
       by_cases hp2:(p2:Int)≤32768
       ·obtain ⟨b,o,c,he,hbl,hlc,hcm,ns',ls',hrg,hrd⟩:=hr.out.at k2 hkl2
        have he':=Value.slice.inj he
        obtain ⟨rfl,_,rfl⟩:=he'
        clear he
        obtain ⟨q0,q1,q2,q3,q4,q5,q6,q7,q8⟩:=range9 (rangeAt_below hrg H.out.2.2.1 hbl)
        have hrd':=hide (hrd.below H.out.2.2.1)
        obtain ⟨a1,m1,d1,a2,m2,d2,rfl,rfl⟩:=hrd.shape
        clear hrg hrd
        have hmx:=suml_take (l.map (blk n)) k2 (by simpa using hkl2)
        rw [List.getElem_map] at hmx
        have hcall:=hide (ih'.out l[k2] (.slice a1 m1 d1) (.slice a2 m2 d2) wr p2 (d + 1) hrd'.out (z5.out _ (List.getElem_mem _)) (by omega) (by omega))
        have ed:((d + 1:Nat):Int)=(d:Int) + 1:=by omega
        rw [ed] at hcall
        have hmx':=hide hmx
        have hp2':=hide hp2
        clear hmx ed
        go_wp2_with (go_at_call 59;refine hcall.out.mono ?_;rintro e w1 ⟨p3,rfl,H3,hb1⟩)
        refine ⟨⟨k2 + 1,p3,rfl,by go_num,by omega,?_⟩,by simp [intOf];omega⟩
        refine ⟨fun h3=>?_,H3.out.2,below_then H.out.2.2.1 hb1,H.out.2.2.2.below hb1⟩
        have e3:=H3.out.1 h3
        have e2:=H.out.1 (by have:=hp2'.out;omega)
        have e4:=hmx'.out
        omega
       ·go_wp2_with fail
        go_ret
        exact ⟨p2,rfl,⟨fun h3=>by omega,H.out.2.1⟩,H.out.2.2.1⟩
      ·have hki2:¬ ((k2:Int)<(l.length:Int)):=by omega
       have hD2:m + blk (n + 1) (h,l)=q + suml (h.names.map ByteArray.size) + suml ((l.map (blk n)).take k2):=by
        rw [hD'.out,List.take_of_length_le (by simp;omega)]
       have hD3:=hide hD2
       clear hD2
       go_wp2_with fail
       go_ret
       exact ⟨p2,rfl,⟨fun h3=>by rw [hD3.out];exact H.out.1 h3,H.out.2.1⟩,H.out.2.2.1⟩
def eblk:(n:Nat)→ET n→Nat
 | 0,_=>0
 | n + 1,x=>1 + x.1.name.size + x.1.names.length + blk x.1.vn x.1.val + suml (x.1.names.map ByteArray.size) + suml (x.2.map (eblk n))
def ESz:(n:Nat)→ET n→Prop
 | 0,_=>True
 | n + 1,x=>x.1.name.size≤281474976710656∧x.1.names.length≤281474976710656∧(∀ s∈x.1.names,s.size≤281474976710656)∧Sz x.1.vn x.1.val∧∀ y∈x.2,ESz n y
theorem esiz_eblk:∀ (n:Nat) (x:ET n),esiz n x≤eblk n x
 | 0,x=>Empty.elim x
 | n + 1,x=>by
  simp only [esiz,eblk]
  have:suml (x.2.map (esiz n))≤suml (x.2.map (eblk n)):=by
   generalize x.2=l
   induction l with
   | nil=>exact Nat.le_refl _
   | cons a l ih=>simp only [List.map_cons,suml];have:=esiz_eblk n a;omega
  omega
theorem suml_mem {l:List Nat} {a:Nat} (h:a∈l):a≤suml l:=by
 induction l with
 | nil=>simp at h
 | cons b l ih =>
  simp only [suml]
  rcases List.mem_cons.1 h with rfl|h
  ·omega
  ·have:=ih h;omega
theorem eblk_ge:∀ (n:Nat) (x:ET n),ESz n x→eblk n x≤32768→GE n x
 | 0,x,_,_=>Empty.elim x
 | n + 1,x,h,hb=>by
  obtain ⟨h1,h2,h3,h4,h5⟩:=h
  have hs:=esiz_eblk (n + 1) x
  have hl:x.2.length≤suml (x.2.map (esiz n)):=suml_len (esiz n) (esiz_pos n) x.2
  have hz:=siz_blk x.1.vn x.1.val
  have hs':1 + suml (x.2.map (esiz n))≤eblk (n + 1) x:=hs
  simp only [eblk] at hb hs'
  refine ⟨⟨h1,by omega,h3,h4,by omega⟩,by omega,fun y hy=>eblk_ge n y (h5 y hy) ?_⟩
  have:=suml_mem (List.mem_map_of_mem (f:=eblk n) hy)
  omega
theorem w64 (n:Int) (h1:-9223372036854775808≤n) (h2:n≤9223372036854775807):wrap64 n=n:=by unfold wrap64;omega
theorem ex_at (w:World) (h:Eh) (q:Sl):Ex (w.alloc (.cells (ecl h q) 33)) w.heap.size h q:=⟨Array.getElem?_push_size⟩
set_option maxHeartbeats 2000000 in
set_option maxRecDepth 100000 in
theorem steps_any:∀ (n:Nat) (x:ET n) (q:Sl) (w:World) (m d:Nat),RE n w x q→ESz n x→m≤32768→d≤301 →
  Calls Tryz.prog 52 #[.agg (ecl (ehd n x) q),.int .i64 m,.int .i64 32768,.int .i64 d] w fun e w'=>∃ p:Nat,e=.returned (.int .i64 p)∧Hid ((p≤32768→p=m + eblk n x)∧p≤4503599627370496)∧Below w.heap.size w w':=by
 intro n
 induction n with
 | zero=>intro x;exact Empty.elim x
 | succ n ih =>
  intro x q w m d hr hz hm hd
  obtain ⟨h,l⟩:=x
  obtain ⟨al,cl,hle,hc1,hc2⟩:=hr.tl.len
  obtain ⟨an,cn,hne,hn1,hn2⟩:=hr.1.len
  obtain ⟨x1,y1,z1,x2,y2,z2,x3,y3,z3,x4,y4,z4,hqs⟩:=hr.shape
  subst hqs
  obtain ⟨rfl,rfl,rfl⟩:=Value.slice.inj hle
  obtain ⟨rfl,rfl,rfl⟩:=Value.slice.inj hne
  clear hle hne
  obtain ⟨w1',w2',w3',w4',z5⟩:=hz
  have hP:=hide (fun W (hb:Below w.heap.size w W) (m':Nat) (h':m'≤1125899906842624)=>partsE_any h.vn h.val (.slice x3 y3 z3) (.slice x4 y4 z4) W m' 0 (hr.2.1.below hb) w4' h' (by omega))
  have hr:=hide hr
  have ih':=hide ih
  have z4':=hide w3'
  have z5:=hide z5
  clear ih w3' w4'
  have hm1:(m:Int)≤32768:=by omega
  have e1:(h.name.size:Int)≤281474976710656:=by simp only at w1';omega
  have e3:(h.names.length:Int)≤281474976710656:=by simp only at w2';omega
  clear w1' w2'
  simp only at hn1 hn2 hc1 hc2
  have hB0:=hide (ex_at w h ⟨.slice x1 h.names.length z1,.slice x2 l.length z2,.slice x3 y3 z3,.slice x4 y4 z4⟩)
  obtain ⟨q0,hq0⟩:∃ q0:Nat,q0=m + 1 + h.name.size + h.names.length:=⟨_,rfl⟩
  have hq0i:(m:Int) + 1 + h.name.size + h.names.length=(q0:Int):=by omega
  have hq02:q0≤1125899906842624:=by omega
  have hq0w:wrap64 (wrap64 ((m:Int) + 1 + h.name.size) + h.names.length)=(q0:Int):=by
   have i1:wrap64 ((m:Int) + 1 + h.name.size)=(m:Int) + 1 + h.name.size:=w64 _ (by omega) (by omega)
   rw [i1,w64 _ (by omega) (by omega)]
   exact hq0i
  have hP0:=hide (fun W (hb:Below w.heap.size w W)=>hP.out W hb q0 hq02)
  obtain ⟨q,hq⟩:∃ q:Nat,q=q0 + blk h.vn h.val:=⟨_,rfl⟩
  have hD:m + eblk (n + 1) (h,l)=q + suml (h.names.map ByteArray.size) + suml (l.map (eblk n)):=by simp only [eblk];omega
  have hq':=hide hq
  have hD':=hide hD
  have hq0':=hide hq0
  clear hq hD hq0 hP
  have ml:maxLen=9223372036854775807:=rfl
  show Calls _ _ #[.agg (ecl h ⟨.slice x1 h.names.length z1,.slice x2 l.length z2,.slice x3 y3 z3,.slice x4 y4 z4⟩),.int .i64 m,.int .i64 32768,.int .i64 d] _ _
  unfold ecl at hB0 ⊢
  unfold vals at hP0
  simp only at hB0 hP0 ⊢
  obtain ⟨vv,hvv⟩:∃ vv,vhd h.vn h.val=vv:=⟨_,rfl⟩
  rw [hvv] at hP0 hB0 ⊢
  clear hvv
  by_cases hd3:(300:Int)<(d:Int)
  ·go_enter Tryz.func52, Tryz.ntmps52
   go_wp2_with fail
   go_ret
   exact ⟨32769,by first|rfl|simp,⟨fun h=>by omega,by omega⟩,by first|exact below_al (Below.refl _ _)|exact Below.refl _ _⟩
  ·go_enter Tryz.func52, Tryz.ntmps52
   go_wp2_with fail
   refine (hP0.out _ (by first|exact below_al (Below.refl _ _)|exact below_dr (below_al (Below.refl _ _)))).mono ?_
   rintro e w1 ⟨P,rfl,HP,hb1⟩
   have X1:=hide (hB0.out.below hb1)
   have hb2:=hide (below_then (below_al (Below.refl _ _)) hb1)
   clear hb1
   go_wp2_with fail
   go_loopw [1,9] (fun u i w'=>∃ (k p:Nat),u=.int .i64 p∧i=.int .i64 k∧k≤h.names.length∧Hid ((p≤32768→p=q + suml ((h.names.map ByteArray.size).take k))∧p≤4503599627370496∧Below w.heap.size w w'∧Ex w' w.heap.size h ⟨.slice x1 h.names.length z1,.slice x2 l.length z2,.slice x3 y3 z3,.slice x4 y4 z4⟩)) (fun _ i _=>h.names.length - (intOf i).toNat)
   case atStart=>exact ⟨0,P,rfl,rfl,Nat.zero_le _,⟨fun h=>by have:=HP.out.1 h;have:=hq'.out;simp [suml];omega,HP.out.2,hb2.out,X1.out⟩⟩
   case round =>
    obtain ⟨k,p,rfl,rfl,hk,H⟩:=hrel
    obtain ⟨c0,c1,c2,c3,c4⟩:=H.out.2.2.2.cells
    clear c0 c1 c4
    have hp63:(p:Int)≤4503599627370496:=by have:=H.out.2.1;omega
    by_cases hkl:k<h.names.length
    ·have hki:(k:Int)<(h.names.length:Int):=by omega
     by_cases hp:(p:Int)≤32768
     ·obtain ⟨b,o,c,he,hbl,hlc,hcm,hcell⟩:=hr.out.1.at k hkl
      have he':=Value.slice.inj he
      obtain ⟨rfl,_,rfl⟩:=he'
      clear he
      have hcell:=(H.out.2.2.1.cell (p:=⟨b,o + k,none⟩) hbl).trans hcell
      have hz:=z4'.out h.names[k] (List.getElem_mem _)
      have hmx:=suml_take (h.names.map ByteArray.size) k (by simpa using hkl)
      rw [List.getElem_map] at hmx
      have hmx':=hide hmx
      obtain ⟨s,hs⟩:∃ s,h.names[k]=s:=⟨_,rfl⟩
      simp only at hcell
      rw [hs] at hcell hz
      have hzi:(s.size:Int)≤281474976710656:=by omega
      have hs':=hide hs
      have hz':=hide hz
      clear hmx hs hz
      go_wp2_with fail
      refine ⟨⟨k + 1,p + s.size,by go_num,by go_num,by omega,?_⟩,by simp [intOf];omega⟩
      refine ⟨fun h3=>?_,by omega,H.out.2.2⟩
      rw [hmx'.out,hs'.out]
      have:=H.out.1 (by omega)
      omega
     ·go_wp2_with fail
      go_loopw [1,10] (fun u i w'=>∃ (k p:Nat),u=.int .i64 p∧i=.int .i64 k∧k≤l.length∧Hid ((p≤32768→p=q + suml (h.names.map ByteArray.size) + suml ((l.map (eblk n)).take k))∧p≤4503599627370496∧Below w.heap.size w w'∧Ex w' w.heap.size h ⟨.slice x1 h.names.length z1,.slice x2 l.length z2,.slice x3 y3 z3,.slice x4 y4 z4⟩)) (fun _ i _=>l.length - (intOf i).toNat)
      case atStart=>exact ⟨0,p,rfl,rfl,Nat.zero_le _,fun h=>by omega,H.out.2⟩
      case round =>
       clear H c2 c3 hp63
       obtain ⟨k2,p2,rfl,rfl,hk2,H⟩:=hrel
       obtain ⟨c0,c1,c2,c3,c4⟩:=H.out.2.2.2.cells
       clear c0 c1 c4
       have hp63:(p2:Int)≤4503599627370496:=by have:=H.out.2.1;omega
       by_cases hkl2:k2<l.length
       ·have hki2:(k2:Int)<(l.length:Int):=by omega
        have hk63:(k2:Int)<9223372036854775807:=by omega
        by_cases hp2:(p2:Int)≤32768
        ·obtain ⟨b,o,c,he,hbl,hlc,hcm,q',hrg,hrd⟩:=hr.out.tl.at k2 hkl2
         have he':=Value.slice.inj he
         obtain ⟨rfl,_,rfl⟩:=he'
         clear he
         have r0:=range13 (rangeAt_below hrg H.out.2.2.1 hbl)
         have hrd':=hide (hrd.below H.out.2.2.1)
         obtain ⟨a1,m1,d1,a2,m2,d2,a3,m3,d3,a4,m4,d4,rfl⟩:=hrd.shape
         clear hrg hrd
         have hmx:=suml_take (l.map (eblk n)) k2 (by simpa using hkl2)
         rw [List.getElem_map] at hmx
         have hcall:=hide (ih'.out l[k2] ⟨.slice a1 m1 d1,.slice a2 m2 d2,.slice a3 m3 d3,.slice a4 m4 d4⟩ wr p2 (d + 1) hrd'.out (z5.out _ (List.getElem_mem _)) (by omega) (by omega))
         have ed:((d + 1:Nat):Int)=(d:Int) + 1:=by omega
         rw [ed] at hcall
         obtain ⟨y,hy⟩:∃ y,ehd n l[k2]=y:=⟨_,rfl⟩
         simp only at r0
         rw [hy] at hcall r0
         unfold ecl at hcall
         simp only at hcall
         have hmx':=hide hmx
         have hp2':=hide hp2
         clear hmx ed hy
         go_wp2_with (go_at_call 52;refine hcall.out.mono ?_;rintro e w1 ⟨p3,rfl,H3,hb1⟩)
         refine ⟨⟨k2 + 1,p3,rfl,by go_num,by omega,?_⟩,by simp [intOf];omega⟩
         refine ⟨fun h3=>?_,H3.out.2,below_then H.out.2.2.1 hb1,H.out.2.2.2.below hb1⟩
         have e3:=H3.out.1 h3
         have e2:=H.out.1 (by have:=hp2'.out;omega)
         have e4:=hmx'.out
         omega
        ·go_wp2_with fail
         go_ret
         exact ⟨p2,rfl,⟨fun h3=>by omega,H.out.2.1⟩,H.out.2.2.1⟩
       ·have hki2:¬ ((k2:Int)<(l.length:Int)):=by omega
        have hD2:m + eblk (n + 1) (h,l)=q + suml (h.names.map ByteArray.size) + suml ((l.map (eblk n)).take k2):=by
         rw [hD'.out,List.take_of_length_le (by simp;omega)]
        have hD3:=hide hD2
        clear hD2
        go_wp2_with fail
        go_ret
        exact ⟨p2,rfl,⟨fun h3=>by rw [hD3.out];exact H.out.1 h3,H.out.2.1⟩,H.out.2.2.1⟩
    ·have hki:¬ ((k:Int)<(h.names.length:Int)):=by omega
     go_wp2_with fail
     go_loopw [1,10] (fun u i w'=>∃ (k p:Nat),u=.int .i64 p∧i=.int .i64 k∧k≤l.length∧Hid ((p≤32768→p=q + suml (h.names.map ByteArray.size) + suml ((l.map (eblk n)).take k))∧p≤4503599627370496∧Below w.heap.size w w'∧Ex w' w.heap.size h ⟨.slice x1 h.names.length z1,.slice x2 l.length z2,.slice x3 y3 z3,.slice x4 y4 z4⟩)) (fun _ i _=>l.length - (intOf i).toNat)
     case atStart=>exact ⟨0,p,rfl,rfl,Nat.zero_le _,fun h3=>by rw [H.out.1 h3,List.take_of_length_le (by simp;omega)];simp [suml],H.out.2⟩
     case round =>
      clear H c2 c3 hp63
      obtain ⟨k2,p2,rfl,rfl,hk2,H⟩:=hrel
      obtain ⟨c0,c1,c2,c3,c4⟩:=H.out.2.2.2.cells
      clear c0 c1 c4
      have hp63:(p2:Int)≤4503599627370496:=by have:=H.out.2.1;omega
      by_cases hkl2:k2<l.length
      ·have hki2:(k2:Int)<(l.length:Int):=by omega
       have hk63:(k2:Int)<9223372036854775807:=by omega
       by_cases hp2:(p2:Int)≤32768
       ·obtain ⟨b,o,c,he,hbl,hlc,hcm,q',hrg,hrd⟩:=hr.out.tl.at k2 hkl2
        have he':=Value.slice.inj he
        obtain ⟨rfl,_,rfl⟩:=he'
        clear he
        have r0:=range13 (rangeAt_below hrg H.out.2.2.1 hbl)
        have hrd':=hide (hrd.below H.out.2.2.1)
        obtain ⟨a1,m1,d1,a2,m2,d2,a3,m3,d3,a4,m4,d4,rfl⟩:=hrd.shape
        clear hrg hrd
        have hmx:=suml_take (l.map (eblk n)) k2 (by simpa using hkl2)
        rw [List.getElem_map] at hmx
        have hcall:=hide (ih'.out l[k2] ⟨.slice a1 m1 d1,.slice a2 m2 d2,.slice a3 m3 d3,.slice a4 m4 d4⟩ wr p2 (d + 1) hrd'.out (z5.out _ (List.getElem_mem _)) (by omega) (by omega))
        have ed:((d + 1:Nat):Int)=(d:Int) + 1:=by omega
        rw [ed] at hcall
        obtain ⟨y,hy⟩:∃ y,ehd n l[k2]=y:=⟨_,rfl⟩
        simp only at r0
        rw [hy] at hcall r0
        unfold ecl at hcall
        simp only at hcall
        have hmx':=hide hmx
        have hp2':=hide hp2
        clear hmx ed hy
        go_wp2_with (go_at_call 52;refine hcall.out.mono ?_;rintro e w1 ⟨p3,rfl,H3,hb1⟩)
        refine ⟨⟨k2 + 1,p3,rfl,by go_num,by omega,?_⟩,by simp [intOf];omega⟩
        refine ⟨fun h3=>?_,H3.out.2,below_then H.out.2.2.1 hb1,H.out.2.2.2.below hb1⟩
        have e3:=H3.out.1 h3
        have e2:=H.out.1 (by have:=hp2'.out;omega)
        have e4:=hmx'.out
        omega
       ·go_wp2_with fail
        go_ret
        exact ⟨p2,rfl,⟨fun h3=>by omega,H.out.2.1⟩,H.out.2.2.1⟩
      ·have hki2:¬ ((k2:Int)<(l.length:Int)):=by omega
       have hD2:m + eblk (n + 1) (h,l)=q + suml (h.names.map ByteArray.size) + suml ((l.map (eblk n)).take k2):=by
        rw [hD'.out,List.take_of_length_le (by simp;omega)]
       have hD3:=hide hD2
       clear hD2
       go_wp2_with fail
       go_ret
       exact ⟨p2,rfl,⟨fun h3=>by rw [hD3.out];exact H.out.1 h3,H.out.2.1⟩,H.out.2.2.1⟩
def brd:(n:Nat)→ET n→Bool
 | 0,_=>false
 | n + 1,x=>decide (1000<x.1.names.length) || mny x.1.vn x.1.val || x.2.any (brd n)
set_option maxHeartbeats 2000000 in
set_option maxRecDepth 100000 in
theorem broad_any:∀ (n:Nat) (x:ET n) (q:Sl) (w:World),RE n w x q →
  Calls Tryz.prog 53 #[.agg (ecl (ehd n x) q)] w fun e w'=>e=.returned (.bool (brd n x))∧Below w.heap.size w w':=by
 intro n
 induction n with
 | zero=>intro x;exact Empty.elim x
 | succ n ih =>
  intro x q w hr
  obtain ⟨h,l⟩:=x
  obtain ⟨al,cl,hle,hc1,hc2⟩:=hr.tl.len
  obtain ⟨an,cn,hne,hn1,hn2⟩:=hr.1.len
  obtain ⟨x1,y1,z1,x2,y2,z2,x3,y3,z3,x4,y4,z4,hqs⟩:=hr.shape
  subst hqs
  obtain ⟨rfl,rfl,rfl⟩:=Value.slice.inj hle
  obtain ⟨rfl,rfl,rfl⟩:=Value.slice.inj hne
  clear hle hne
  have hM:=hide (fun W (hb:Below w.heap.size w W)=>many_any h.vn h.val (.slice x3 y3 z3) (.slice x4 y4 z4) W (hr.2.1.below hb))
  have hr:=hide hr
  have ih':=hide ih
  clear ih
  simp only at hn1 hn2 hc1 hc2
  have ml:maxLen=9223372036854775807:=rfl
  have hB0:=hide (ex_at w h ⟨.slice x1 h.names.length z1,.slice x2 l.length z2,.slice x3 y3 z3,.slice x4 y4 z4⟩)
  have hb0:=hide (below_al (o:=.cells (ecl h ⟨.slice x1 h.names.length z1,.slice x2 l.length z2,.slice x3 y3 z3,.slice x4 y4 z4⟩) 33) (Below.refl w.heap.size w))
  have hM0:=hide (hM.out _ hb0.out)
  have c0:=hB0.out.cells
  clear hM
  show Calls _ _ #[.agg (ecl h ⟨.slice x1 h.names.length z1,.slice x2 l.length z2,.slice x3 y3 z3,.slice x4 y4 z4⟩)] _ _
  unfold vals at hM0
  unfold ecl at hb0 ⊢
  simp only at hM0 hb0 c0 ⊢
  by_cases h2:(1000:Int)<(h.names.length:Int)
  ·have hD:brd (n + 1) (h,l)=true:=by simp only [brd];rw [decide_eq_true (by omega)];rfl
   have hD':=hide hD
   clear hD
   go_enter Tryz.func53, Tryz.ntmps53
   go_wp2_with fail
   go_ret
   exact ⟨by rw [hD'.out];rfl,hb0.out⟩
  ·have hD:brd (n + 1) (h,l)=(mny h.vn h.val || l.any (brd n)):=by simp only [brd];rw [decide_eq_false (by omega)];rfl
   have hD':=hide hD
   clear hD
   cases hm:mny h.vn h.val
   ·rw [hm] at hM0 hD'
    go_enter Tryz.func53, Tryz.ntmps53
    go_wp2_with (go_at_call 116;refine hM0.out.mono ?_;rintro e w1 ⟨rfl,hb1⟩)
    go_loopw [3] (fun i w'=>∃ k:Nat,i=.int .i64 k∧k≤l.length∧Hid ((l.take k).any (brd n)=false∧Below w.heap.size w w'∧Ex w' w.heap.size h ⟨.slice x1 h.names.length z1,.slice x2 l.length z2,.slice x3 y3 z3,.slice x4 y4 z4⟩)) (fun i _=>l.length - (intOf i).toNat)
    case atStart=>exact ⟨0,rfl,Nat.zero_le _,rfl,below_then hb0.out hb1,hB0.out.below hb1⟩
    case round =>
     obtain ⟨k,rfl,hk,H⟩:=hrel
     obtain ⟨_,_,c2,c3,_⟩:=H.out.2.2.cells
     by_cases hkl:k<l.length
     ·have hki:(k:Int)<(l.length:Int):=by omega
      have hk63:(k:Int)<9223372036854775807:=by omega
      obtain ⟨b,o,c,he,hbl,hlc,hcm,q',hrg,hrd⟩:=hr.out.tl.at k hkl
      have he':=Value.slice.inj he
      obtain ⟨rfl,_,rfl⟩:=he'
      clear he
      have r0:=range13 (rangeAt_below hrg H.out.2.1 hbl)
      have hrd':=hide (hrd.below H.out.2.1)
      obtain ⟨a1,m1,d1,a2,m2,d2,a3,m3,d3,a4,m4,d4,rfl⟩:=hrd.shape
      clear hrg hrd
      have hcall:=hide (ih'.out l[k] ⟨.slice a1 m1 d1,.slice a2 m2 d2,.slice a3 m3 d3,.slice a4 m4 d4⟩ wr hrd'.out)
      have hbk:Hid (l[k]=l[k]):=rfl
      obtain ⟨bb,hbb⟩:∃ b,brd n l[k]=b:=⟨_,rfl⟩
      rw [hbb] at hcall
      have hbb':=hide hbb
      obtain ⟨y,hy⟩:∃ y,ehd n l[k]=y:=⟨_,rfl⟩
      simp only at r0
      rw [hy] at hcall r0
      unfold ecl at hcall
      simp only at hcall
      clear hy hbb
      cases bb
      ·go_wp2_with (go_at_call 53;refine hcall.out.mono ?_;rintro e w1 ⟨rfl,hb1⟩)
       refine ⟨⟨k + 1,by go_num,by omega,?_,below_then H.out.2.1 hb1,H.out.2.2.below hb1⟩,by simp [intOf];omega⟩
       rw [List.take_succ_eq_append_getElem hkl,List.any_append,H.out.1]
       have:=hbb'.out
       simp only [List.any_cons,List.any_nil,Bool.or_false,Bool.false_or]
       exact this
      ·go_wp2_with (go_at_call 53;refine hcall.out.mono ?_;rintro e w1 ⟨rfl,hb1⟩)
       go_ret
       exact ⟨by rw [hD'.out,any_at hkl hbb'.out];rfl,below_then H.out.2.1 hb1⟩
     ·have hki:¬ ((k:Int)<(l.length:Int)):=by omega
      have hE:=H.out.1
      rw [List.take_of_length_le (by omega)] at hE
      have hE':=hide hE
      clear hE
      go_wp2_with fail
      go_ret
      exact ⟨by rw [hD'.out,hE'.out];rfl,H.out.2.1⟩
   ·rw [hm] at hM0 hD'
    go_enter Tryz.func53, Tryz.ntmps53
    go_wp2_with (go_at_call 116;refine hM0.out.mono ?_;rintro e w1 ⟨rfl,hb1⟩)
    go_ret
    exact ⟨by rw [hD'.out];rfl,below_then hb0.out hb1⟩
set_option maxHeartbeats 2000000 in
set_option maxRecDepth 100000 in
theorem bige_any (n:Nat) (x:ET n) (q:Sl) (w:World) (hr:RE n w x q) (hz:ESz n x) :
  Calls Tryz.prog 19 #[.agg (ecl (ehd n x) q)] w fun e w'=>∃ b,e=.returned (.bool b)∧Hid (b=false→eblk n x≤32768∧brd n x=false)∧Below w.heap.size w w':=by
 obtain ⟨x1,y1,z1,x2,y2,z2,x3,y3,z3,x4,y4,z4,hqs⟩:=hr.shape
 subst hqs
 obtain ⟨h,hh⟩:∃ h,ehd n x=h:=⟨_,rfl⟩
 have hP:=hide (fun o=>steps_any n x ⟨.slice x1 y1 z1,.slice x2 y2 z2,.slice x3 y3 z3,.slice x4 y4 z4⟩ (w.alloc o) 0 0 (hr.below (below_al (Below.refl _ _))) hz (by omega) (by omega))
 have hM:=hide (fun W (hb:Below w.heap.size w W)=>broad_any n x ⟨.slice x1 y1 z1,.slice x2 y2 z2,.slice x3 y3 z3,.slice x4 y4 z4⟩ W (hr.below hb))
 have hB0:=hide (ex_at w h ⟨.slice x1 y1 z1,.slice x2 y2 z2,.slice x3 y3 z3,.slice x4 y4 z4⟩)
 have hb0:=hide (below_al (o:=.cells (ecl h ⟨.slice x1 y1 z1,.slice x2 y2 z2,.slice x3 y3 z3,.slice x4 y4 z4⟩) 33) (Below.refl w.heap.size w))
 rw [hh] at hP hM ⊢
 have c0:=hB0.out.cells
 clear hr hz hh
 unfold ecl at hP hM hb0 ⊢
 simp only at hP hM hb0 c0 ⊢
 go_enter Tryz.func19, Tryz.ntmps19
 go_wp2_with fail
 refine (hP.out _).mono ?_
 rintro e w1 ⟨p,rfl,H,hb1⟩
 have hb2:=hide (below_then hb0.out hb1)
 have c1:=(hB0.out.below hb1).cells
 simp only at c1
 have hcall:=hide (hM.out w1 hb2.out)
 by_cases hp:(32768:Int)<(p:Int)
 ·go_wp2_with (go_at_call 53;refine hcall.out.mono ?_;rintro e w2 ⟨rfl,hb3⟩)
  go_ret
  exact ⟨true,rfl,(fun h=>by cases h),hb2.out⟩
 ·obtain ⟨bb,hbb⟩:∃ b,brd n x=b:=⟨_,rfl⟩
  rw [hbb] at hcall
  have hbb':=hide hbb
  clear hbb
  cases bb
  ·go_wp2_with (go_at_call 53;refine hcall.out.mono ?_;rintro e w2 ⟨rfl,hb3⟩)
   go_ret
   exact ⟨false,ret_bool (decide_eq_false (by omega)),(fun h=>⟨by have:=H.out.1 (by omega);omega,hbb'.out⟩),below_then hb2.out hb3⟩
  ·go_wp2_with (go_at_call 53;refine hcall.out.mono ?_;rintro e w2 ⟨rfl,hb3⟩)
   go_ret
   exact ⟨true,rfl,(fun h=>by cases h),below_then hb2.out hb3⟩
end Lx
end Go.Proofs.YtgicnopppgnjjaaGreatDoor
