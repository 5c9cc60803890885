/- Merged by program: XiChk, XkVal. -/
import Derived.Test.YthodiandebahdaaGreatDoorZq21
import Derived.Test.YthodiandebahdaaGreatDoorUZq16
namespace Go.Proofs.YthodiandebahdaaGreatDoor
open Go.RowKit
set_option linter.unusedSimpArgs false
set_option linter.unusedVariables false
set_option maxHeartbeats 8000000
set_option maxRecDepth 100000 in
theorem formed_any (rv:RVal):∀ (n:Nat)(x:VT n)(ns ls:Value)(w:World),RD n w x ns ls→Sz n x →
  Calls Tryz.prog 49 #[.agg (vals (vhd n x) ns ls)] w fun e w'=>TB (IsV n x) w e w':=by
 intro n
 induction n with
 | zero=>intro x;exact Empty.elim x
 | succ n ih =>
  intro x ns ls w hr hz
  obtain ⟨h,l⟩:=x
  obtain ⟨b1,hb1⟩:=tells (Bare h l)
  obtain ⟨b2,hb2⟩:=tells (Filled h l.length)
  have hP:=hide (fun W (hb:Below w.heap.size w W)=>Calls.tb (rplain_any n h l ns ls W (hr.below hb)) hb1)
  have hO:=hide (fun W (hb:Below w.heap.size w W)=>Calls.tb (own_any rv n h l ns ls W (hr.below hb) hz) hb2)
  obtain ⟨al,cl,rfl,hc1,hc2⟩:=hr.len
  obtain ⟨an,mn,cn,_,_,_,rfl,_⟩:=hr.shape
  have ml:maxLen=9223372036854775807:=rfl
  simp only at hc1 hc2
  have hb0:Hid (∀ o,Below w.heap.size w (w.alloc o)):=fun o=>below_al (Below.refl _ _)
  have hB0:=hide (bx_new w h (.slice an mn cn) (.slice al l.length cl))
  replace hr:=hide hr
  replace hz:=hide hz
  replace hb1:=hide hb1
  replace hb2:=hide hb2
  have ih':=hide ih
  clear ih rv
  show Calls _ _ #[.agg #[.int .i64 h.kind,.bool h.flag,.bool h.neg,.string h.dig,.int .i64 h.exp,.int .u64 h.bits,.string h.text,.slice an mn cn,.slice al l.length cl]] _ _
  cases b1
  ·have hno:=hide (show ¬ IsV (n+1) (h,l) from fun q=>by have:=hb1.out.2 q.1;cases this)
   go_enter Tryz.func49, Tryz.ntmps49
   go_wp2_with (go_at_call 76;refine (hP.out _ (hb0.out _)).mono ?_;rintro e w1 ⟨rfl,hb3⟩)
   go_ret
   exact TB.no hno.out (below_then (hb0.out _) hb3)
  ·go_enter Tryz.func49, Tryz.ntmps49
   go_wp2_with fail
   refine (hP.out _ (hb0.out _)).mono ?_
   rintro e w1 ⟨rfl,hb3⟩
   have hw1:=hide (below_then (hb0.out _) hb3)
   have hB1:=hide (hB0.out.below hb3)
   clear hB0 hb3
   obtain ⟨c0,c1,c2,c3,c4,c5,c6,c7,c8⟩:=hB1.out.cells
   have hO1:=hide (hO.out w1 hw1.out)
   cases b2
   ·have hno:=hide (show ¬ IsV (n+1) (h,l) from fun q=>by have:=hb2.out.2 q.2.1;cases this)
    go_wp2_with (go_at_call 77;refine hO1.out.mono ?_;rintro e w2 ⟨rfl,hb4⟩)
    go_ret
    exact TB.no hno.out (below_then hw1.out hb4)
   ·go_wp2_with fail
    refine hO1.out.mono ?_
    rintro e w2 ⟨rfl,hb4⟩
    have hw2:=hide (below_then hw1.out hb4)
    have hB2:=hide (hB1.out.below hb4)
    clear hB1 hb4 hO1 c0 c1 c2 c3 c4 c5 c6 c7 c8
    go_wp2_with fail
    go_loopw [3] (fun i w'=>∃ k:Nat,i=.int .i64 k∧k≤l.length∧Hid ((∀ y∈l.take k,IsV n y)∧Below w.heap.size w w')∧Hid (Bx w' w.heap.size h (.slice an mn cn) (.slice al l.length cl))) (fun i _=>l.length - (intOf i).toNat)
    case atStart=>exact ⟨0,rfl,Nat.zero_le _,⟨(fun y hy=>by simp at hy),hw2.out⟩,hB2.out⟩
    case round =>
     obtain ⟨k,rfl,hk,H,hB⟩:=hrel
     have c8:=hB.out.cells.2.2.2.2.2.2.2.2
     by_cases hkl:k<l.length
     ·have hki:(k:Int)<(l.length:Int):=by omega
      have hk63:(k:Int)<9223372036854775807:=by omega
      obtain ⟨b,o,c,he,hbl,hlc,hcm,ns',ls',hrg,hrd⟩:=hr.out.at k hkl
      have he':=Value.slice.inj he
      obtain ⟨rfl,_,rfl⟩:=he'
      clear he
      obtain ⟨q0,q1,q2,q3,q4,q5,q6,q7,q8⟩:=range9 (rangeAt_below hrg H.out.2 hbl)
      have hrd':=hide (hrd.below H.out.2)
      obtain ⟨a1,m1,d1,a2,m2,d2,rfl,rfl⟩:=hrd.shape
      clear hrg hrd
      obtain ⟨bk,hbk⟩:=tells (IsV n l[k])
      have hcall:=hide (Calls.tb (ih'.out l[k] (.slice a1 m1 d1) (.slice a2 m2 d2) wr hrd'.out (hz.out.2.2.2.2 _ (List.getElem_mem _))) hbk)
      have hbk':=hide hbk
      clear hbk
      cases bk
      ·go_wp2_with (go_at_call 49;refine hcall.out.mono ?_;rintro e w3 ⟨rfl,hb3⟩)
       go_ret
       exact TB.no (fun q=>by have:=hbk'.out.2 (q.2.2 _ (List.getElem_mem _));cases this) (below_then H.out.2 hb3)
      ·go_wp2_with (go_at_call 49;refine hcall.out.mono ?_;rintro e w3 ⟨rfl,hb3⟩)
       exact ⟨⟨k+1,by go_num,by omega,⟨mem_take_more hkl H.out.1 (hbk'.out.1 (by simp)),below_then H.out.2 hb3⟩,hB.out.below hb3⟩,by simp [intOf];omega⟩
     ·have hki:¬ ((k:Int)<(l.length:Int)):=by omega
      have hE2:=H.out.1
      rw [List.take_of_length_le (by omega)] at hE2
      have hyes:=hide (show IsV (n+1) (h,l) from ⟨hb1.out.1 (by simp),hb2.out.1 (by simp),hE2⟩)
      clear hE2
      go_wp2_with fail
      go_ret
      exact TB.yes hyes.out H.out.2
set_option maxRecDepth 100000 in
theorem within_any (n:Nat)(x:VT n)(ns ls:Value)(w:World)(hr:Rdy n w x ns ls) :
  Calls Tryz.prog 50 #[.agg (vals (vhd n x) ns ls)] w fun e w'=>TB (Win n x) w e w':=by
 obtain ⟨a1,m1,d1,a2,m2,d2,rfl,rfl⟩:=hr.rd.shape
 obtain ⟨h,hh⟩:∃ h,vhd n x=h:=⟨_,rfl⟩
 obtain ⟨b2,hb2⟩:=tells (Sht n x)
 have hS:=hide (fun o=>Calls.tb (rshort_any n x (.slice a1 m1 d1) (.slice a2 m2 d2) (w.alloc o) (hr.rd.below (below_al (Below.refl _ _))) hr.sz) hb2)
 have hD:=hide (fun W (hb:Below w.heap.size w W)=>rdepth_any n x (.slice a1 m1 d1) (.slice a2 m2 d2) W (hr.rd.below hb) hr.le)
 have hZ:=hide (fun W (hb:Below w.heap.size w W)=>rsize_any n x (.slice a1 m1 d1) (.slice a2 m2 d2) W (hr.rd.below hb) hr.le)
 have hb0:Hid (∀ o,Below w.heap.size w (w.alloc o)):=fun o=>below_al (Below.refl _ _)
 obtain ⟨D,hDD⟩:∃ D,dep n x=D:=⟨_,rfl⟩
 obtain ⟨Z,hZZ⟩:∃ Z,siz n x=Z:=⟨_,rfl⟩
 have hE':=hide (show Win n x↔(b2=true∧D≤16∧Z≤4096) by
  unfold Win
  rw [hDD,hZZ,←hb2])
 rw [hh] at hS hD hZ ⊢
 rw [hDD] at hD
 rw [hZZ] at hZ
 have hB0:=hide (bx_new w h (.slice a1 m1 d1) (.slice a2 m2 d2))
 clear hr hh hDD hZZ hb2
 show Calls _ _ #[.agg #[.int .i64 h.kind,.bool h.flag,.bool h.neg,.string h.dig,.int .i64 h.exp,.int .u64 h.bits,.string h.text,.slice a1 m1 d1,.slice a2 m2 d2]] _ _
 cases b2
 ·go_enter Tryz.func50, Tryz.ntmps50
  go_wp2_with (go_at_call 78;refine (hS.out _).mono ?_;rintro e w2 ⟨rfl,hb2⟩)
  go_ret
  exact TB.no (fun q=>by have:=(hE'.out.1 q).1;cases this) (below_then (hb0.out _) hb2)
 ·go_enter Tryz.func50, Tryz.ntmps50
  go_wp2_with fail
  refine (hS.out _).mono ?_
  rintro e w2 ⟨rfl,hb2⟩
  have hw2:=hide (below_then (hb0.out _) hb2)
  have hB2:=hide (hB0.out.below hb2)
  obtain ⟨c0,c1,c2,c3,c4,c5,c6,c7,c8⟩:=hB2.out.cells
  have hD1:=hide (hD.out w2 hw2.out)
  by_cases hd:(16:Int)<(D:Int)
  ·have hdn:¬ (D:Int)≤16:=by omega
   go_wp2_with (go_at_call 79;refine hD1.out.mono ?_;rintro e w3 ⟨rfl,hb3⟩)
   go_ret
   exact TB.no (fun q=>by have:=(hE'.out.1 q).2.1;omega) (below_then hw2.out hb3)
  ·have hdn:(D:Int)≤16:=by omega
   go_wp2_with fail
   refine hD1.out.mono ?_
   rintro e w3 ⟨rfl,hb3⟩
   have hw3:=hide (below_then hw2.out hb3)
   have hB3:=hide (hB2.out.below hb3)
   clear c0 c1 c2 c3 c4 c5 c6 c7 c8
   obtain ⟨c0,c1,c2,c3,c4,c5,c6,c7,c8⟩:=hB3.out.cells
   have hZ1:=hide (hZ.out w3 hw3.out)
   have hfin:=hide (show decide ((Z:Int)≤4096)=true↔Win n x by rw [hE'.out,decide_eq_true_iff];simp;omega)
   go_wp2_with (go_at_call 80;refine hZ1.out.mono ?_;rintro e w4 ⟨rfl,hb4⟩)
   go_ret
   exact ⟨decide ((Z:Int)≤4096),rfl,(show Hid _ from hfin.out),below_then hw3.out hb4⟩
set_option maxRecDepth 100000 in
theorem rcheck_any (rv:RVal)(n:Nat)(x:VT n)(ns ls:Value)(w:World)(hr:Rdy n w x ns ls)(E:Int)(hE:Chk n x E) :
  Calls Tryz.prog 26 #[.agg (vals (vhd n x) ns ls)] w fun e w'=>e=.returned (.int .i64 E)∧Below w.heap.size w w':=by
 obtain ⟨a1,m1,d1,a2,m2,d2,rfl,rfl⟩:=hr.rd.shape
 obtain ⟨h,hh⟩:∃ h,vhd n x=h:=⟨_,rfl⟩
 obtain ⟨b1,hb1⟩:=tells (IsV n x)
 obtain ⟨b2,hb2⟩:=tells (Win n x)
 have hF:=hide (fun o=>Calls.tb (formed_any rv n x (.slice a1 m1 d1) (.slice a2 m2 d2) (w.alloc o) (hr.rd.below (below_al (Below.refl _ _))) hr.sz) hb1)
 have hW:=hide (fun W (hb:Below w.heap.size w W)=>Calls.tb (within_any n x (.slice a1 m1 d1) (.slice a2 m2 d2) W (hr.below hb)) hb2)
 have hb0:Hid (∀ o,Below w.heap.size w (w.alloc o)):=fun o=>below_al (Below.refl _ _)
 have hE':=hide (show (E=40∧b1=false)∨(E=2∧b1=true∧b2=false)∨(E=0∧b1=true∧b2=true) by
  unfold Chk at hE
  rw [←hb1,←hb2] at hE
  simpa using hE)
 rw [hh] at hF hW ⊢
 have hB0:=hide (bx_new w h (.slice a1 m1 d1) (.slice a2 m2 d2))
 clear hr hh hb1 hb2 hE rv
 show Calls _ _ #[.agg #[.int .i64 h.kind,.bool h.flag,.bool h.neg,.string h.dig,.int .i64 h.exp,.int .u64 h.bits,.string h.text,.slice a1 m1 d1,.slice a2 m2 d2]] _ _
 rcases hE'.out with ⟨rfl,rfl⟩|⟨rfl,rfl,rfl⟩|⟨rfl,rfl,rfl⟩
 ·go_enter Tryz.func26, Tryz.ntmps26
  go_wp2_with (go_at_call 49;refine (hF.out _).mono ?_;rintro e w1 ⟨rfl,hb1⟩)
  go_ret
  exact ⟨rfl,below_then (hb0.out _) hb1⟩
 ·go_enter Tryz.func26, Tryz.ntmps26
  go_wp2_with fail
  refine (hF.out _).mono ?_
  rintro e w1 ⟨rfl,hb1⟩
  have hw1:=hide (below_then (hb0.out _) hb1)
  have hB1:=hide (hB0.out.below hb1)
  obtain ⟨c0,c1,c2,c3,c4,c5,c6,c7,c8⟩:=hB1.out.cells
  have hW1:=hide (hW.out w1 hw1.out)
  go_wp2_with (go_at_call 50;refine hW1.out.mono ?_;rintro e w2 ⟨rfl,hb2⟩)
  go_ret
  exact ⟨rfl,below_then hw1.out hb2⟩
 ·go_enter Tryz.func26, Tryz.ntmps26
  go_wp2_with fail
  refine (hF.out _).mono ?_
  rintro e w1 ⟨rfl,hb1⟩
  have hw1:=hide (below_then (hb0.out _) hb1)
  have hB1:=hide (hB0.out.below hb1)
  obtain ⟨c0,c1,c2,c3,c4,c5,c6,c7,c8⟩:=hB1.out.cells
  have hW1:=hide (hW.out w1 hw1.out)
  go_wp2_with (go_at_call 50;refine hW1.out.mono ?_;rintro e w2 ⟨rfl,hb2⟩)
  go_ret
  exact ⟨rfl,below_then hw1.out hb2⟩
set_option maxRecDepth 100000 in
theorem rval:RVal:=by
 intro s w hs
 have hC:=hide (fun W=>Ut.rcount_any s W hs)
 go_enter Tryz.func102, Tryz.ntmps102
 go_wp2_with fail
 refine (hC.out _).mono ?_
 rintro x w1 ⟨⟨m,e,hce,rfl⟩,hb1⟩
 have hce:=hide hce
 rcases hce.out with ⟨h1,h2,rfl⟩|⟨h1,rfl,h3⟩
 ·have hk:=hide (show okT s=true from h1)
  clear h1 h2
  go_wp2_with fail
  go_ret
  exact ⟨by rw [hk.out];first|rfl|simp,hb1⟩
 ·have hk:=hide (show okT s=false from h1)
  have he:¬ (e:Int)=0:=by omega
  clear h1 h3
  go_wp2_with fail
  go_ret
  exact ⟨by rw [hk.out];first|rfl|(simp;omega),hb1⟩
end Go.Proofs.YthodiandebahdaaGreatDoor
