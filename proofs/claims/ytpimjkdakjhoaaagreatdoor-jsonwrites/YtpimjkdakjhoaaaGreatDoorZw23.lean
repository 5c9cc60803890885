/- Merged by program: XdRsh, XhForm, XiChk, XkVal. -/
import Derived.Test.YtpimjkdakjhoaaaGreatDoorZw10
import Derived.Test.YtpimjkdakjhoaaaGreatDoorZw22
import Derived.Test.YtpimjkdakjhoaaaGreatDoorZw11
import Derived.Test.YtpimjkdakjhoaaaGreatDoorUZw16
namespace Go.Proofs.YtpimjkdakjhoaaaGreatDoor
open Go.RowKit
set_option linter.unusedSimpArgs false
set_option linter.unusedVariables false
set_option maxHeartbeats 8000000
set_option maxRecDepth 100000 in
theorem rshort_any:∀ (n:Nat) (x:VT n) (ns ls:Value) (w:World),RD n w x ns ls→Sz n x →
  Calls Tryz.prog 80 #[.agg (vals (vhd n x) ns ls)] w fun e w'=>TB (Sht n x) w e w':=by
 intro n
 induction n with
 | zero=>intro x;exact Empty.elim x
 | succ n ih =>
  intro x ns ls w hr hz
  obtain ⟨h,l⟩:=x
  obtain ⟨al,cl,rfl,hc1,hc2⟩:=hr.len
  obtain ⟨an,cn,rfl,hn1,hn2⟩:=hr.1.len
  have ml:maxLen=9223372036854775807:=rfl
  simp only at hc1 hc2 hn1 hn2
  have hb0:Hid (∀ o,Below w.heap.size w (w.alloc o)):=fun o=>below_al (Below.refl _ _)
  have hr:=hide hr
  have hz:=hide hz
  have ih':=hide ih
  clear ih
  show Calls _ _ #[.agg #[.int .i64 h.kind,.bool h.flag,.bool h.neg,.string h.dig,.int .i64 h.exp,.int .u64 h.bits,.string h.text,.slice an h.names.length cn,.slice al l.length cl]] _ _
  have hB0:=hide (bx_new w h (.slice an h.names.length cn) (.slice al l.length cl))
  obtain ⟨M,hM⟩:∃ M:Int,(bif h.kind==9 then 64 else 4096)=M:=⟨_,rfl⟩
  by_cases k9:h.kind=9
  ·have hML:M=64:=by rw [←hM];simp [k9]
   have hB9:Hid (Bx (w.alloc (.cells #[.int .i64 9,.bool h.flag,.bool h.neg,.string h.dig,.int .i64 h.exp,.int .u64 h.bits,.string h.text,.slice an h.names.length cn,.slice al l.length cl] 29)) w.heap.size h (.slice an h.names.length cn) (.slice al l.length cl)):=by have:=hB0.out;unfold vals at this;rw [k9] at this;exact this
   by_cases ht:(64:Int)<(h.text.size:Int)
   ·have hx:=hide (show ¬ Sht (n + 1) (h,l) from fun q=>by have h2:(h.text.size:Int)≤(bif h.kind==9 then 64 else 4096):=q.1;rw [hM,hML] at h2;omega)
    rw [k9]
    go_enter Tryz.func80, Tryz.ntmps80
    go_wp2_with fail
    go_ret
    exact TB.no hx.out (hb0.out _)
   by_cases hl:(256:Int)<(l.length:Int)
   ·have hx:=hide (show ¬ Sht (n + 1) (h,l) from fun q=>by have h2:l.length≤256:=q.2.1;omega)
    rw [k9]
    go_enter Tryz.func80, Tryz.ntmps80
    go_wp2_with fail
    go_ret
    exact TB.no hx.out (hb0.out _)
   ·have hx0:=hide (show (h.text.size:Int)≤(bif h.kind==9 then 64 else 4096)∧l.length≤256 from ⟨by rw [hM,hML];omega,by omega⟩)
    rw [k9]
    go_enter Tryz.func80, Tryz.ntmps80
    go_wp2_with fail
    go_loopw [4] (fun i w'=>∃ k:Nat,i=.int .i64 k∧k≤h.names.length∧Hid ((∀ s∈h.names.take k,s.size≤64)∧Below w.heap.size w w')∧Hid (Bx w' w.heap.size h (.slice an h.names.length cn) (.slice al l.length cl))) (fun i _=>h.names.length - (intOf i).toNat)
    case atStart=>exact ⟨0,rfl,Nat.zero_le _,⟨(fun y hy=>by simp at hy),hb0.out _⟩,hB9.out⟩
    case round =>
     obtain ⟨k,rfl,hk,H,hB⟩:=hrel
     have c7:=hB.out.cells.2.2.2.2.2.2.2.1
     have c8:=hB.out.cells.2.2.2.2.2.2.2.2
     by_cases hkl:k<h.names.length
     ·have hki:(k:Int)<(h.names.length:Int):=by omega
      have hk63:(k:Int)<9223372036854775807:=by omega
      obtain ⟨b,o,c,he,hbl,hlc,hcm,hcell⟩:=hr.out.1.at k hkl
      have he':=Value.slice.inj he
      obtain ⟨rfl,_,rfl⟩:=he'
      clear he
      have hcell:=(H.out.2.cell (p:=⟨b,o + k,none⟩) hbl).trans hcell
      obtain ⟨s,hs⟩:∃ s,h.names[k]=s:=⟨_,rfl⟩
      simp only at hcell
      rw [hs] at hcell
      have hs':=hide hs
      clear hs
      by_cases h64:(64:Int)<(s.size:Int)
      ·have hno:=hide (show ¬ Sht (n + 1) (h,l) from fun q=>by
        have h2:=q.2.2.1 h.names[k] (List.getElem_mem _)
        rw [hs'.out] at h2
        omega)
       go_wp2_with fail
       go_ret
       exact TB.no hno.out H.out.2
      ·have hmo:=hide (mem_take_more (p:=fun s=>s.size≤64) hkl H.out.1 (by rw [hs'.out];omega))
       go_wp2_with fail
       exact ⟨⟨k + 1,by go_num,by omega,⟨hmo.out,H.out.2⟩,hB.out⟩,by simp [intOf];omega⟩
     ·have hki:¬ ((k:Int)<(h.names.length:Int)):=by omega
      have hE:=H.out.1
      rw [List.take_of_length_le (by omega)] at hE
      have hE':=hide hE
      have hb2:=hide H.out.2
      clear hE
      go_wp2_with fail
      go_loopw [5] (fun i w'=>∃ k:Nat,i=.int .i64 k∧k≤l.length∧Hid ((∀ y∈l.take k,Sht n y)∧Below w.heap.size w w')∧Hid (Bx w' w.heap.size h (.slice an h.names.length cn) (.slice al l.length cl))) (fun i _=>l.length - (intOf i).toNat)
      case atStart=>exact ⟨0,rfl,Nat.zero_le _,⟨(fun y hy=>by simp at hy),hb2.out⟩,hB.out⟩
      case round =>
       clear H c7 c8 hki hk hB
       obtain ⟨k2,rfl,hk,H,hB⟩:=hrel
       have c8:=hB.out.cells.2.2.2.2.2.2.2.2
       by_cases hkl:k2<l.length
       ·have hki:(k2:Int)<(l.length:Int):=by omega
        have hk63:(k2:Int)<9223372036854775807:=by omega
        obtain ⟨b,o,c,he,hbl,hlc,hcm,ns',ls',hrg,hrd⟩:=hr.out.at k2 hkl
        have he':=Value.slice.inj he
        obtain ⟨rfl,_,rfl⟩:=he'
        clear he
        obtain ⟨q0,q1,q2,q3,q4,q5,q6,q7,q8⟩:=range9 (rangeAt_below hrg H.out.2 hbl)
        have hrd':=hide (hrd.below H.out.2)
        obtain ⟨a1,m1,d1,a2,m2,d2,rfl,rfl⟩:=hrd.shape
        clear hrg hrd
        obtain ⟨bk,hbk⟩:=tells (Sht n l[k2])
        have hcall:=hide (Calls.tb (ih'.out l[k2] (.slice a1 m1 d1) (.slice a2 m2 d2) wr hrd'.out (hz.out.2.2.2.2 _ (List.getElem_mem _))) hbk)
        have hbk':=hide hbk
        clear hbk
        cases bk
        ·go_wp2_with (go_at_call 80;refine hcall.out.mono ?_;rintro e w3 ⟨rfl,hb3⟩)
         go_ret
         exact TB.no (fun q=>by have:=hbk'.out.2 (q.2.2.2 _ (List.getElem_mem _));cases this) (below_then H.out.2 hb3)
        ·go_wp2_with (go_at_call 80;refine hcall.out.mono ?_;rintro e w3 ⟨rfl,hb3⟩)
         exact ⟨⟨k2 + 1,by go_num,by omega,⟨mem_take_more hkl H.out.1 (hbk'.out.1 (by simp)),below_then H.out.2 hb3⟩,hB.out.below hb3⟩,by simp [intOf];omega⟩
       ·have hki:¬ ((k2:Int)<(l.length:Int)):=by omega
        have hE2:=H.out.1
        rw [List.take_of_length_le (by omega)] at hE2
        have hE2':=hide hE2
        clear hE2
        go_wp2_with fail
        go_ret
        exact TB.yes ⟨hx0.out.1,hx0.out.2,hE'.out,hE2'.out⟩ H.out.2
  ·have hML:M=4096:=by rw [←hM,show (h.kind==9)=false by rw [beq_eq_false_iff_ne];exact k9];rfl
   by_cases ht:(4096:Int)<(h.text.size:Int)
   ·have hx:=hide (show ¬ Sht (n + 1) (h,l) from fun q=>by have h2:(h.text.size:Int)≤(bif h.kind==9 then 64 else 4096):=q.1;rw [hM,hML] at h2;omega)
    go_enter Tryz.func80, Tryz.ntmps80
    go_wp2_with fail
    go_ret
    exact TB.no hx.out (hb0.out _)
   by_cases hl:(256:Int)<(l.length:Int)
   ·have hx:=hide (show ¬ Sht (n + 1) (h,l) from fun q=>by have h2:l.length≤256:=q.2.1;omega)
    go_enter Tryz.func80, Tryz.ntmps80
    go_wp2_with fail
    go_ret
    exact TB.no hx.out (hb0.out _)
   ·have hx0:=hide (show (h.text.size:Int)≤(bif h.kind==9 then 64 else 4096)∧l.length≤256 from ⟨by rw [hM,hML];omega,by omega⟩)
    go_enter Tryz.func80, Tryz.ntmps80
    go_wp2_with fail
    go_loopw [4] (fun i w'=>∃ k:Nat,i=.int .i64 k∧k≤h.names.length∧Hid ((∀ s∈h.names.take k,s.size≤64)∧Below w.heap.size w w')∧Hid (Bx w' w.heap.size h (.slice an h.names.length cn) (.slice al l.length cl))) (fun i _=>h.names.length - (intOf i).toNat)
    case atStart=>exact ⟨0,rfl,Nat.zero_le _,⟨(fun y hy=>by simp at hy),hb0.out _⟩,hB0.out⟩
    case round =>
     obtain ⟨k,rfl,hk,H,hB⟩:=hrel
     have c7:=hB.out.cells.2.2.2.2.2.2.2.1
     have c8:=hB.out.cells.2.2.2.2.2.2.2.2
     by_cases hkl:k<h.names.length
     ·have hki:(k:Int)<(h.names.length:Int):=by omega
      have hk63:(k:Int)<9223372036854775807:=by omega
      obtain ⟨b,o,c,he,hbl,hlc,hcm,hcell⟩:=hr.out.1.at k hkl
      have he':=Value.slice.inj he
      obtain ⟨rfl,_,rfl⟩:=he'
      clear he
      have hcell:=(H.out.2.cell (p:=⟨b,o + k,none⟩) hbl).trans hcell
      obtain ⟨s,hs⟩:∃ s,h.names[k]=s:=⟨_,rfl⟩
      simp only at hcell
      rw [hs] at hcell
      have hs':=hide hs
      clear hs
      by_cases h64:(64:Int)<(s.size:Int)
      ·have hno:=hide (show ¬ Sht (n + 1) (h,l) from fun q=>by
        have h2:=q.2.2.1 h.names[k] (List.getElem_mem _)
        rw [hs'.out] at h2
        omega)
       go_wp2_with fail
       go_ret
       exact TB.no hno.out H.out.2
      ·have hmo:=hide (mem_take_more (p:=fun s=>s.size≤64) hkl H.out.1 (by rw [hs'.out];omega))
       go_wp2_with fail
       exact ⟨⟨k + 1,by go_num,by omega,⟨hmo.out,H.out.2⟩,hB.out⟩,by simp [intOf];omega⟩
     ·have hki:¬ ((k:Int)<(h.names.length:Int)):=by omega
      have hE:=H.out.1
      rw [List.take_of_length_le (by omega)] at hE
      have hE':=hide hE
      have hb2:=hide H.out.2
      clear hE
      go_wp2_with fail
      go_loopw [5] (fun i w'=>∃ k:Nat,i=.int .i64 k∧k≤l.length∧Hid ((∀ y∈l.take k,Sht n y)∧Below w.heap.size w w')∧Hid (Bx w' w.heap.size h (.slice an h.names.length cn) (.slice al l.length cl))) (fun i _=>l.length - (intOf i).toNat)
      case atStart=>exact ⟨0,rfl,Nat.zero_le _,⟨(fun y hy=>by simp at hy),hb2.out⟩,hB.out⟩
      case round =>
       clear H c7 c8 hki hk hB
       obtain ⟨k2,rfl,hk,H,hB⟩:=hrel
       have c8:=hB.out.cells.2.2.2.2.2.2.2.2
       by_cases hkl:k2<l.length
       ·have hki:(k2:Int)<(l.length:Int):=by omega
        have hk63:(k2:Int)<9223372036854775807:=by omega
        obtain ⟨b,o,c,he,hbl,hlc,hcm,ns',ls',hrg,hrd⟩:=hr.out.at k2 hkl
        have he':=Value.slice.inj he
        obtain ⟨rfl,_,rfl⟩:=he'
        clear he
        obtain ⟨q0,q1,q2,q3,q4,q5,q6,q7,q8⟩:=range9 (rangeAt_below hrg H.out.2 hbl)
        have hrd':=hide (hrd.below H.out.2)
        obtain ⟨a1,m1,d1,a2,m2,d2,rfl,rfl⟩:=hrd.shape
        clear hrg hrd
        obtain ⟨bk,hbk⟩:=tells (Sht n l[k2])
        have hcall:=hide (Calls.tb (ih'.out l[k2] (.slice a1 m1 d1) (.slice a2 m2 d2) wr hrd'.out (hz.out.2.2.2.2 _ (List.getElem_mem _))) hbk)
        have hbk':=hide hbk
        clear hbk
        cases bk
        ·go_wp2_with (go_at_call 80;refine hcall.out.mono ?_;rintro e w3 ⟨rfl,hb3⟩)
         go_ret
         exact TB.no (fun q=>by have:=hbk'.out.2 (q.2.2.2 _ (List.getElem_mem _));cases this) (below_then H.out.2 hb3)
        ·go_wp2_with (go_at_call 80;refine hcall.out.mono ?_;rintro e w3 ⟨rfl,hb3⟩)
         exact ⟨⟨k2 + 1,by go_num,by omega,⟨mem_take_more hkl H.out.1 (hbk'.out.1 (by simp)),below_then H.out.2 hb3⟩,hB.out.below hb3⟩,by simp [intOf];omega⟩
       ·have hki:¬ ((k2:Int)<(l.length:Int)):=by omega
        have hE2:=H.out.1
        rw [List.take_of_length_le (by omega)] at hE2
        have hE2':=hide hE2
        clear hE2
        go_wp2_with fail
        go_ret
        exact TB.yes ⟨hx0.out.1,hx0.out.2,hE'.out,hE2'.out⟩ H.out.2
def RVal:Prop:=∀ (s:ByteArray) (w:World),s.size≤281474976710656→Calls Tryz.prog 114 #[.string s] w fun e w'=>e=.returned (.bool (okT s))∧Below w.heap.size w w'
set_option maxRecDepth 100000 in
theorem own_any (rv:RVal) (n:Nat) (h:Hd) (l:List (VT n)) (ns ls:Value) (w:World) (hr:RD (n + 1) w (h,l) ns ls) (hz:Sz (n + 1) (h,l)) :
  Calls Tryz.prog 79 #[.agg (vals h ns ls)] w fun e w'=>TB (Filled h l.length) w e w':=by
 obtain ⟨al,cl,rfl,hc1,hc2⟩:=hr.len
 obtain ⟨an,cn,rfl,hn1,hn2⟩:=hr.1.len
 have ml:maxLen=9223372036854775807:=rfl
 simp only at hc1 hc2 hn1 hn2
 obtain ⟨z1,z2,z3,z4,z5⟩:=hz
 simp only at z1 z2 z3 z4
 have hB0:=hide (bx_new w h (.slice an h.names.length cn) (.slice al l.length cl))
 have hb0:Hid (∀ o,Below w.heap.size w (w.alloc o)):=fun o=>below_al (Below.refl _ _)
 have hV:=hide (fun W=>rv h.text W (by omega))
 have z4:=hide z4
 replace hr:=hide hr
 replace rv:=hide rv
 clear z5
 show Calls _ _ #[.agg #[.int .i64 h.kind,.bool h.flag,.bool h.neg,.string h.dig,.int .i64 h.exp,.int .u64 h.bits,.string h.text,.slice an h.names.length cn,.slice al l.length cl]] _ _
 by_cases k3:h.kind=3
 ·have hx:=hide (show Filled h l.length↔isN h.neg h.dig h.exp=true by simp [Filled,k3])
  have hC:=hide (fun W=>ris_any h.neg h.dig h.exp W (by omega))
  obtain ⟨b,hb⟩:∃ b,isN h.neg h.dig h.exp=b:=⟨_,rfl⟩
  rw [hb] at hC hx
  rw [k3]
  clear hb
  go_enter Tryz.func79, Tryz.ntmps79
  go_wp2_with (go_at_call 83;refine (hC.out _).mono ?_;rintro e w1 ⟨rfl,hb1⟩)
  go_ret
  exact ⟨b,rfl,(show Hid _ from hx.out.symm),below_then (hb0.out _) hb1⟩
 by_cases k5:h.kind=5
 ·have hx:=hide (show Filled h l.length↔okT h.text=true by simp [Filled,k5])
  obtain ⟨b,hb⟩:∃ b,okT h.text=b:=⟨_,rfl⟩
  rw [hb] at hV hx
  rw [k5]
  clear hb
  go_enter Tryz.func79, Tryz.ntmps79
  go_wp2_with (go_at_call 114;refine (hV.out _).mono ?_;rintro e w1 ⟨rfl,hb1⟩)
  go_ret
  exact ⟨b,rfl,(show Hid _ from hx.out.symm),below_then (hb0.out _) hb1⟩
 by_cases k9:h.kind=9
 ·obtain ⟨b,hb⟩:∃ b,okT h.text=b:=⟨_,rfl⟩
  have hx:=hide (show Filled h l.length↔(b=true∧l.length=1) by simp [Filled,k9,hb])
  rw [hb] at hV
  rw [k9]
  clear hb
  cases b
  ·go_enter Tryz.func79, Tryz.ntmps79
   go_wp2_with (go_at_call 114;refine (hV.out _).mono ?_;rintro e w1 ⟨rfl,hb1⟩;have c8:=one_cell hb1 8)
   go_ret
   exact TB.no (fun q=>by have:=(hx.out.1 q).1;cases this) (below_then (hb0.out _) hb1)
  ·by_cases h1:l.length=1
   ·rw [h1] at hx hB0 ⊢
    go_enter Tryz.func79, Tryz.ntmps79
    go_wp2_with (go_at_call 114;refine (hV.out _).mono ?_;rintro e w1 ⟨rfl,hb1⟩;have c8:=one_cell hb1 8)
    go_ret
    exact TB.yes (hx.out.2 (by simp)) (below_then (hb0.out _) hb1)
   ·have h1i:¬ (l.length:Int)=1:=by omega
    have h1d:=hide (show decide ((l.length:Int)=1)=false from decide_eq_false h1i)
    have hx2:Hid (¬ Filled h l.length):=fun q=>h1 (hx.out.1 q).2
    clear h1 hx
    go_enter Tryz.func79, Tryz.ntmps79
    go_wp2_with (go_at_call 114;refine (hV.out _).mono ?_;rintro e w1 ⟨rfl,hb1⟩;have c8:=one_cell hb1 8)
    go_ret
    first|exact TB.no hx2.out (below_then (hb0.out _) hb1)|(show TB _ _ (.returned (.bool (decide ((l.length:Int)=1)))) _;rw [h1d.out];exact TB.no hx2.out (below_then (hb0.out _) hb1))
 by_cases k8:h.kind=8
 ·have hx:=hide (show Filled h l.length↔(h.names.length=l.length∧Nms h.names) by simp [Filled,k8])
  have hB8:Hid (Bx (w.alloc (.cells #[.int .i64 8,.bool h.flag,.bool h.neg,.string h.dig,.int .i64 h.exp,.int .u64 h.bits,.string h.text,.slice an h.names.length cn,.slice al l.length cl] 29)) w.heap.size h (.slice an h.names.length cn) (.slice al l.length cl)):=by have:=hB0.out;unfold vals at this;rw [k8] at this;exact this
  rw [k8]
  go_enter Tryz.func79, Tryz.ntmps79
  go_wp2_with fail
  go_loopw [3] (fun i w'=>∃ k:Nat,i=.int .i64 k∧k≤h.names.length∧Hid ((∀ s∈h.names.take k,okT s=true)∧Below w.heap.size w w')∧Hid (Bx w' w.heap.size h (.slice an h.names.length cn) (.slice al l.length cl))) (fun i _=>h.names.length - (intOf i).toNat)
  case atStart=>exact ⟨0,rfl,Nat.zero_le _,⟨(fun y hy=>by simp at hy),hb0.out _⟩,hB8.out⟩
  case round =>
   obtain ⟨k,rfl,hk,H,hB⟩:=hrel
   have c7:=hB.out.cells.2.2.2.2.2.2.2.1
   have c8:=hB.out.cells.2.2.2.2.2.2.2.2
   by_cases hkl:k<h.names.length
   ·have hki:(k:Int)<(h.names.length:Int):=by omega
    have hk63:(k:Int)<9223372036854775807:=by omega
    obtain ⟨b,o,c,he,hbl,hlc,hcm,hcell⟩:=hr.out.1.at k hkl
    have he':=Value.slice.inj he
    obtain ⟨rfl,_,rfl⟩:=he'
    clear he
    have hcell:=(H.out.2.cell (p:=⟨b,o + k,none⟩) hbl).trans hcell
    obtain ⟨s,hs⟩:∃ s,h.names[k]=s:=⟨_,rfl⟩
    simp only at hcell
    rw [hs] at hcell
    have hsz:s.size≤281474976710656:=by rw [←hs];exact z4.out _ (List.getElem_mem _)
    have hVs:=hide (rv.out s wr hsz)
    obtain ⟨q,hq⟩:∃ q,okT s=q:=⟨_,rfl⟩
    rw [hq] at hVs
    have hq':=hide hq
    have hs':=hide hs
    clear hs hq hsz
    cases q
    ·have hno:=hide (show ¬ Filled h l.length from fun p=>by
      have:=(hx.out.1 p).2.1 h.names[k] (List.getElem_mem _)
      rw [hs'.out,hq'.out] at this;cases this)
     go_wp2_with (go_at_call 114;refine hVs.out.mono ?_;rintro e w3 ⟨rfl,hb3⟩)
     go_ret
     exact TB.no hno.out (below_then H.out.2 hb3)
    ·have hmo:=hide (mem_take_more (p:=fun s=>okT s=true) hkl H.out.1 (by rw [hs'.out,hq'.out]))
     go_wp2_with (go_at_call 114;refine hVs.out.mono ?_;rintro e w3 ⟨rfl,hb3⟩)
     exact ⟨⟨k + 1,by go_num,by omega,⟨hmo.out,below_then H.out.2 hb3⟩,hB.out.below hb3⟩,by simp [intOf];omega⟩
   ·have hki:¬ ((k:Int)<(h.names.length:Int)):=by omega
    have hE:=H.out.1
    rw [List.take_of_length_le (by omega)] at hE
    have hE':=hide hE
    clear hE
    by_cases hlen:(h.names.length:Int)=(l.length:Int)
    ·obtain ⟨q,hq⟩:=tells h.names.Nodup
     have hU:=hide (Calls.tb (unlike_any (.slice an h.names.length cn) h.names wr (hr.out.1.below H.out.2)) hq)
     have hfin:=hide (show q=true↔Filled h l.length by
      rw [hx.out,hq]
      exact ⟨fun p=>⟨by omega,hE'.out,p⟩,fun p=>p.2.2⟩)
     clear hq
     go_wp2_with (go_at_call 115;refine hU.out.mono ?_;rintro e w3 ⟨rfl,hb3⟩)
     go_ret
     exact ⟨q,rfl,(show Hid _ from hfin.out),below_then H.out.2 hb3⟩
    ·have hno:=hide (show ¬ Filled h l.length from fun p=>by have:=(hx.out.1 p).1;omega)
     go_wp2_with fail
     go_ret
     exact TB.no hno.out H.out.2
 ·have hx:=hide (show Filled h l.length by simp [Filled,k3,k5,k8,k9])
  go_enter Tryz.func79, Tryz.ntmps79
  go_wp2_with fail
  go_ret
  exact TB.yes hx.out (hb0.out _)
set_option maxRecDepth 100000 in
theorem formed_any (rv:RVal):∀ (n:Nat) (x:VT n) (ns ls:Value) (w:World),RD n w x ns ls→Sz n x →
  Calls Tryz.prog 51 #[.agg (vals (vhd n x) ns ls)] w fun e w'=>TB (IsV n x) w e w':=by
 intro n
 induction n with
 | zero=>intro x;exact Empty.elim x
 | succ n ih =>
  intro x ns ls w hr hz
  obtain ⟨h,l⟩:=x
  obtain ⟨b1,hb1⟩:=tells (Bare h l)
  obtain ⟨b2,hb2⟩:=tells (Filled h l.length)
  have hP:=hide (fun W (hb:Below w.heap.size w W)=>Calls.tb (rplain_any n h l ns ls W (hr.below hb)) hb1)
  have hO:=hide (fun W (hb:Below w.heap.size w W)=>Calls.tb (own_any rv n h l ns ls W (hr.below hb) hz) hb2)
  obtain ⟨al,cl,rfl,hc1,hc2⟩:=hr.len
  obtain ⟨an,mn,cn,_,_,_,rfl,_⟩:=hr.shape
  have ml:maxLen=9223372036854775807:=rfl
  simp only at hc1 hc2
  have hb0:Hid (∀ o,Below w.heap.size w (w.alloc o)):=fun o=>below_al (Below.refl _ _)
  have hB0:=hide (bx_new w h (.slice an mn cn) (.slice al l.length cl))
  replace hr:=hide hr
  replace hz:=hide hz
  replace hb1:=hide hb1
  replace hb2:=hide hb2
  have ih':=hide ih
  clear ih rv
  show Calls _ _ #[.agg #[.int .i64 h.kind,.bool h.flag,.bool h.neg,.string h.dig,.int .i64 h.exp,.int .u64 h.bits,.string h.text,.slice an mn cn,.slice al l.length cl]] _ _
  cases b1
  ·have hno:=hide (show ¬ IsV (n + 1) (h,l) from fun q=>by have:=hb1.out.2 q.1;cases this)
   go_enter Tryz.func51, Tryz.ntmps51
   go_wp2_with (go_at_call 78;refine (hP.out _ (hb0.out _)).mono ?_;rintro e w1 ⟨rfl,hb3⟩)
   go_ret
   exact TB.no hno.out (below_then (hb0.out _) hb3)
  ·go_enter Tryz.func51, Tryz.ntmps51
   go_wp2_with fail
   refine (hP.out _ (hb0.out _)).mono ?_
   rintro e w1 ⟨rfl,hb3⟩
   have hw1:=hide (below_then (hb0.out _) hb3)
   have hB1:=hide (hB0.out.below hb3)
   clear hB0 hb3
   obtain ⟨c0,c1,c2,c3,c4,c5,c6,c7,c8⟩:=hB1.out.cells
   have hO1:=hide (hO.out w1 hw1.out)
   cases b2
   ·have hno:=hide (show ¬ IsV (n + 1) (h,l) from fun q=>by have:=hb2.out.2 q.2.1;cases this)
    go_wp2_with (go_at_call 79;refine hO1.out.mono ?_;rintro e w2 ⟨rfl,hb4⟩)
    go_ret
    exact TB.no hno.out (below_then hw1.out hb4)
   ·go_wp2_with fail
    refine hO1.out.mono ?_
    rintro e w2 ⟨rfl,hb4⟩
    have hw2:=hide (below_then hw1.out hb4)
    have hB2:=hide (hB1.out.below hb4)
    clear hB1 hb4 hO1 c0 c1 c2 c3 c4 c5 c6 c7 c8
    go_wp2_with fail
    go_loopw [3] (fun i w'=>∃ k:Nat,i=.int .i64 k∧k≤l.length∧Hid ((∀ y∈l.take k,IsV n y)∧Below w.heap.size w w')∧Hid (Bx w' w.heap.size h (.slice an mn cn) (.slice al l.length cl))) (fun i _=>l.length - (intOf i).toNat)
    case atStart=>exact ⟨0,rfl,Nat.zero_le _,⟨(fun y hy=>by simp at hy),hw2.out⟩,hB2.out⟩
    case round =>
     obtain ⟨k,rfl,hk,H,hB⟩:=hrel
     have c8:=hB.out.cells.2.2.2.2.2.2.2.2
     by_cases hkl:k<l.length
     ·have hki:(k:Int)<(l.length:Int):=by omega
      have hk63:(k:Int)<9223372036854775807:=by omega
      obtain ⟨b,o,c,he,hbl,hlc,hcm,ns',ls',hrg,hrd⟩:=hr.out.at k hkl
      have he':=Value.slice.inj he
      obtain ⟨rfl,_,rfl⟩:=he'
      clear he
      obtain ⟨q0,q1,q2,q3,q4,q5,q6,q7,q8⟩:=range9 (rangeAt_below hrg H.out.2 hbl)
      have hrd':=hide (hrd.below H.out.2)
      obtain ⟨a1,m1,d1,a2,m2,d2,rfl,rfl⟩:=hrd.shape
      clear hrg hrd
      obtain ⟨bk,hbk⟩:=tells (IsV n l[k])
      have hcall:=hide (Calls.tb (ih'.out l[k] (.slice a1 m1 d1) (.slice a2 m2 d2) wr hrd'.out (hz.out.2.2.2.2 _ (List.getElem_mem _))) hbk)
      have hbk':=hide hbk
      clear hbk
      cases bk
      ·go_wp2_with (go_at_call 51;refine hcall.out.mono ?_;rintro e w3 ⟨rfl,hb3⟩)
       go_ret
       exact TB.no (fun q=>by have:=hbk'.out.2 (q.2.2 _ (List.getElem_mem _));cases this) (below_then H.out.2 hb3)
      ·go_wp2_with (go_at_call 51;refine hcall.out.mono ?_;rintro e w3 ⟨rfl,hb3⟩)
       exact ⟨⟨k + 1,by go_num,by omega,⟨mem_take_more hkl H.out.1 (hbk'.out.1 (by simp)),below_then H.out.2 hb3⟩,hB.out.below hb3⟩,by simp [intOf];omega⟩
     ·have hki:¬ ((k:Int)<(l.length:Int)):=by omega
      have hE2:=H.out.1
      rw [List.take_of_length_le (by omega)] at hE2
      have hyes:=hide (show IsV (n + 1) (h,l) from ⟨hb1.out.1 (by simp),hb2.out.1 (by simp),hE2⟩)
      clear hE2
      go_wp2_with fail
      go_ret
      exact TB.yes hyes.out H.out.2
set_option maxRecDepth 100000 in
theorem within_any (n:Nat) (x:VT n) (ns ls:Value) (w:World) (hr:Rdy n w x ns ls) :
  Calls Tryz.prog 52 #[.agg (vals (vhd n x) ns ls)] w fun e w'=>TB (Win n x) w e w':=by
 obtain ⟨a1,m1,d1,a2,m2,d2,rfl,rfl⟩:=hr.rd.shape
 obtain ⟨h,hh⟩:∃ h,vhd n x=h:=⟨_,rfl⟩
 obtain ⟨b2,hb2⟩:=tells (Sht n x)
 have hS:=hide (fun o=>Calls.tb (rshort_any n x (.slice a1 m1 d1) (.slice a2 m2 d2) (w.alloc o) (hr.rd.below (below_al (Below.refl _ _))) hr.sz) hb2)
 have hD:=hide (fun W (hb:Below w.heap.size w W)=>rdepth_any n x (.slice a1 m1 d1) (.slice a2 m2 d2) W (hr.rd.below hb) hr.le)
 have hZ:=hide (fun W (hb:Below w.heap.size w W)=>rsize_any n x (.slice a1 m1 d1) (.slice a2 m2 d2) W (hr.rd.below hb) hr.le)
 have hb0:Hid (∀ o,Below w.heap.size w (w.alloc o)):=fun o=>below_al (Below.refl _ _)
 obtain ⟨D,hDD⟩:∃ D,dep n x=D:=⟨_,rfl⟩
 obtain ⟨Z,hZZ⟩:∃ Z,siz n x=Z:=⟨_,rfl⟩
 have hE':=hide (show Win n x↔(b2=true∧D≤16∧Z≤4096) by
  unfold Win
  rw [hDD,hZZ,←hb2])
 rw [hh] at hS hD hZ ⊢
 rw [hDD] at hD
 rw [hZZ] at hZ
 have hB0:=hide (bx_new w h (.slice a1 m1 d1) (.slice a2 m2 d2))
 clear hr hh hDD hZZ hb2
 show Calls _ _ #[.agg #[.int .i64 h.kind,.bool h.flag,.bool h.neg,.string h.dig,.int .i64 h.exp,.int .u64 h.bits,.string h.text,.slice a1 m1 d1,.slice a2 m2 d2]] _ _
 cases b2
 ·go_enter Tryz.func52, Tryz.ntmps52
  go_wp2_with (go_at_call 80;refine (hS.out _).mono ?_;rintro e w2 ⟨rfl,hb2⟩)
  go_ret
  exact TB.no (fun q=>by have:=(hE'.out.1 q).1;cases this) (below_then (hb0.out _) hb2)
 ·go_enter Tryz.func52, Tryz.ntmps52
  go_wp2_with fail
  refine (hS.out _).mono ?_
  rintro e w2 ⟨rfl,hb2⟩
  have hw2:=hide (below_then (hb0.out _) hb2)
  have hB2:=hide (hB0.out.below hb2)
  obtain ⟨c0,c1,c2,c3,c4,c5,c6,c7,c8⟩:=hB2.out.cells
  have hD1:=hide (hD.out w2 hw2.out)
  by_cases hd:(16:Int)<(D:Int)
  ·have hdn:¬ (D:Int)≤16:=by omega
   go_wp2_with (go_at_call 81;refine hD1.out.mono ?_;rintro e w3 ⟨rfl,hb3⟩)
   go_ret
   exact TB.no (fun q=>by have:=(hE'.out.1 q).2.1;omega) (below_then hw2.out hb3)
  ·have hdn:(D:Int)≤16:=by omega
   go_wp2_with fail
   refine hD1.out.mono ?_
   rintro e w3 ⟨rfl,hb3⟩
   have hw3:=hide (below_then hw2.out hb3)
   have hB3:=hide (hB2.out.below hb3)
   clear c0 c1 c2 c3 c4 c5 c6 c7 c8
   obtain ⟨c0,c1,c2,c3,c4,c5,c6,c7,c8⟩:=hB3.out.cells
   have hZ1:=hide (hZ.out w3 hw3.out)
   have hfin:=hide (show decide ((Z:Int)≤4096)=true↔Win n x by rw [hE'.out,decide_eq_true_iff];simp;omega)
   go_wp2_with (go_at_call 82;refine hZ1.out.mono ?_;rintro e w4 ⟨rfl,hb4⟩)
   go_ret
   exact ⟨decide ((Z:Int)≤4096),rfl,(show Hid _ from hfin.out),below_then hw3.out hb4⟩
set_option maxRecDepth 100000 in
theorem rcheck_any (rv:RVal) (n:Nat) (x:VT n) (ns ls:Value) (w:World) (hr:Rdy n w x ns ls) (E:Int) (hE:Chk n x E) :
  Calls Tryz.prog 26 #[.agg (vals (vhd n x) ns ls)] w fun e w'=>e=.returned (.int .i64 E)∧Below w.heap.size w w':=by
 obtain ⟨a1,m1,d1,a2,m2,d2,rfl,rfl⟩:=hr.rd.shape
 obtain ⟨h,hh⟩:∃ h,vhd n x=h:=⟨_,rfl⟩
 obtain ⟨b1,hb1⟩:=tells (IsV n x)
 obtain ⟨b2,hb2⟩:=tells (Win n x)
 have hF:=hide (fun o=>Calls.tb (formed_any rv n x (.slice a1 m1 d1) (.slice a2 m2 d2) (w.alloc o) (hr.rd.below (below_al (Below.refl _ _))) hr.sz) hb1)
 have hW:=hide (fun W (hb:Below w.heap.size w W)=>Calls.tb (within_any n x (.slice a1 m1 d1) (.slice a2 m2 d2) W (hr.below hb)) hb2)
 have hb0:Hid (∀ o,Below w.heap.size w (w.alloc o)):=fun o=>below_al (Below.refl _ _)
 have hE':=hide (show (E=40∧b1=false)∨(E=2∧b1=true∧b2=false)∨(E=0∧b1=true∧b2=true) by
  unfold Chk at hE
  rw [←hb1,←hb2] at hE
  simpa using hE)
 rw [hh] at hF hW ⊢
 have hB0:=hide (bx_new w h (.slice a1 m1 d1) (.slice a2 m2 d2))
 clear hr hh hb1 hb2 hE rv
 show Calls _ _ #[.agg #[.int .i64 h.kind,.bool h.flag,.bool h.neg,.string h.dig,.int .i64 h.exp,.int .u64 h.bits,.string h.text,.slice a1 m1 d1,.slice a2 m2 d2]] _ _
 rcases hE'.out with ⟨rfl,rfl⟩|⟨rfl,rfl,rfl⟩|⟨rfl,rfl,rfl⟩
 ·go_enter Tryz.func26, Tryz.ntmps26
  go_wp2_with (go_at_call 51;refine (hF.out _).mono ?_;rintro e w1 ⟨rfl,hb1⟩)
  go_ret
  exact ⟨rfl,below_then (hb0.out _) hb1⟩
 ·go_enter Tryz.func26, Tryz.ntmps26
  go_wp2_with fail
  refine (hF.out _).mono ?_
  rintro e w1 ⟨rfl,hb1⟩
  have hw1:=hide (below_then (hb0.out _) hb1)
  have hB1:=hide (hB0.out.below hb1)
  obtain ⟨c0,c1,c2,c3,c4,c5,c6,c7,c8⟩:=hB1.out.cells
  have hW1:=hide (hW.out w1 hw1.out)
  go_wp2_with (go_at_call 52;refine hW1.out.mono ?_;rintro e w2 ⟨rfl,hb2⟩)
  go_ret
  exact ⟨rfl,below_then hw1.out hb2⟩
 ·go_enter Tryz.func26, Tryz.ntmps26
  go_wp2_with fail
  refine (hF.out _).mono ?_
  rintro e w1 ⟨rfl,hb1⟩
  have hw1:=hide (below_then (hb0.out _) hb1)
  have hB1:=hide (hB0.out.below hb1)
  obtain ⟨c0,c1,c2,c3,c4,c5,c6,c7,c8⟩:=hB1.out.cells
  have hW1:=hide (hW.out w1 hw1.out)
  go_wp2_with (go_at_call 52;refine hW1.out.mono ?_;rintro e w2 ⟨rfl,hb2⟩)
  go_ret
  exact ⟨rfl,below_then hw1.out hb2⟩
set_option maxRecDepth 100000 in
theorem rval:RVal:=by
 intro s w hs
 have hC:=hide (fun W=>Ut.rcount_any s W hs)
 go_enter Tryz.func114, Tryz.ntmps114
 go_wp2_with fail
 refine (hC.out _).mono ?_
 rintro x w1 ⟨⟨m,e,hce,rfl⟩,hb1⟩
 have hce:=hide hce
 rcases hce.out with ⟨h1,h2,rfl⟩|⟨h1,rfl,h3⟩
 ·have hk:=hide (show okT s=true from h1)
  clear h1 h2
  go_wp2_with fail
  go_ret
  exact ⟨by rw [hk.out];first|rfl|simp,hb1⟩
 ·have hk:=hide (show okT s=false from h1)
  have he:¬ (e:Int)=0:=by omega
  clear h1 h3
  go_wp2_with fail
  go_ret
  exact ⟨by rw [hk.out];first|rfl|(simp;omega),hb1⟩
end Go.Proofs.YtpimjkdakjhoaaaGreatDoor
