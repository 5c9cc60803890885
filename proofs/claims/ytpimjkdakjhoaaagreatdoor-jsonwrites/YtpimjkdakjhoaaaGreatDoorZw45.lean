/- Merged by program: MnWrites. -/
import Derived.Test.YtpimjkdakjhoaaaGreatDoorZw30
import Derived.Test.YtpimjkdakjhoaaaGreatDoorZw44
namespace Go.Proofs.YtpimjkdakjhoaaaGreatDoor
open Go.RowKit
set_option linter.unusedSimpArgs false
set_option linter.unusedVariables false
set_option maxHeartbeats 8000000
structure Cx (w:World) (n:Nat) (x:VT n) (h:Hd) (ns ls ns2 ls2:Value) (i2:Nat) (W:World):Prop where
 below:Below w.heap.size w W
 ba:Bx W w.heap.size h ns ls
 bb:Bx W i2 h ns2 ls2
 rd:RD n W x ns2 ls2
theorem Cx.then {w W W1:World} {n i2:Nat} {x:VT n} {h:Hd} {ns ls ns2 ls2:Value} (c:Cx w n x h ns ls ns2 ls2 i2 W) (hb:Below W.heap.size W W1):Cx w n x h ns ls ns2 ls2 i2 W1 :=
 ⟨below_then c.below hb,c.ba.below hb,c.bb.below hb,c.rd.below hb⟩
def RCk:Prop:=∀ (n:Nat) (x:VT n) (ns ls:Value) (w:World),Rdy n w x ns ls→∀ E:Int,Chk n x E→Calls Tryz.prog 26 #[.agg (vals (vhd n x) ns ls)] w fun e w'=>e=.returned (.int .i64 E)∧Below w.heap.size w w'
set_option maxRecDepth 100000 in
theorem writes_law (rck:RCk) (n:Nat) (x:VT n) (ns ls:Value) (w:World) (hr:RD n w x ns ls) (hz:Sz n x) (hg:Rg n x) (g:Ut.Gu w) (ht:Tab w.heap.size w) (h8:8≤w.heap.size) :
  Calls Tryz.prog 3 #[.agg (vals (vhd n x) ns ls)] w fun e w'=>e=.returned (.bool true)∧Below w.heap.size w w':=by
 obtain ⟨a1,m1,d1,a2,m2,d2,rfl,rfl⟩:=hr.shape
 obtain ⟨h,hh⟩:∃ h,vhd n x=h:=⟨_,rfl⟩
 have hbig:=hide (fun o=>Go.Proofs.YtpimjkdakjhoaaaGreatDoor.big_any n x (.slice a1 m1 d1) (.slice a2 m2 d2) (w.alloc o) (hr.below (below_al (Below.refl _ _))) hz)
 have hB0:=hide (bx_new w h (.slice a1 m1 d1) (.slice a2 m2 d2))
 have hb0:Hid (∀ o,Below w.heap.size w (w.alloc o)):=fun o=>below_al (Below.refl _ _)
 have hcp:=hide (fun W (hb:Below w.heap.size w W) (hk:blk n x≤65536)=>copy_any n x _ _ W (hr.below hb) (by omega))
 replace hr:=hide hr
 replace hz:=hide hz
 replace g:=hide g
 replace hg:=hide hg
 replace ht:=hide ht
 replace rck:=hide rck
 have hh':=hide hh
 rw [hh] at hbig hcp ⊢
 clear hh
 simp only [vals] at hcp
 show Calls _ _ #[.agg #[.int .i64 h.kind,.bool h.flag,.bool h.neg,.string h.dig,.int .i64 h.exp,.int .u64 h.bits,.string h.text,.slice a1 m1 d1,.slice a2 m2 d2]] _ _
 go_enter Tryz.func3, Tryz.ntmps3
 go_wp2_with fail
 refine (hbig.out _).mono ?_
 rintro e w1 ⟨bb,rfl,hsm,hb1⟩
 have hw1:=hide (below_then (hb0.out _) hb1)
 have hB1:=hide (hB0.out.below hb1)
 clear hb1
 cases bb
 ·have hblk:=hide (hsm.out rfl)
  obtain ⟨c0,c1,c2,c3,c4,c5,c6,c7,c8⟩:=hB1.out.cells
  go_wp2_with fail
  refine (hcp.out _ hw1.out hblk.out.1).mono ?_
  rintro e w2 ⟨ns2,ls2,rfl,hk2,hb2⟩
  obtain ⟨e1,e2,e3,e4,e5,e6,rfl,rfl⟩:=hk2.out.rd.shape
  clear c0 c1 c2 c3 c4 c5 c6 c7 c8
  have C2:Hid (Cx w n x h (.slice a1 m1 d1) (.slice a2 m2 d2) (.slice e1 e2 e3) (.slice e4 e5 e6) w2.heap.size (w2.alloc (.cells (vals h (.slice e1 e2 e3) (.slice e4 e5 e6)) 29))) :=
   ⟨below_al (below_then hw1.out hb2),(hB1.out.below hb2).below (below_al (Below.refl _ _)),bx_new _ _ _ _,hk2.out.rd.below (below_al (Below.refl _ _))⟩
  clear hb2 hk2
  obtain ⟨E,hE⟩:=chk_ex n x
  have hsz:siz n x≤65536:=Nat.le_trans (siz_blk n x) hblk.out.1
  have Rv:Hid (∀ W,Below w.heap.size w W→Rdy n W x (.slice a1 m1 d1) (.slice a2 m2 d2)):=fun W hb=>⟨hr.out.below hb,hz.out,by omega⟩
  have Ro:Hid (∀ W,Cx w n x h (.slice a1 m1 d1) (.slice a2 m2 d2) (.slice e1 e2 e3) (.slice e4 e5 e6) w2.heap.size W→Rdy n W x (.slice e1 e2 e3) (.slice e4 e5 e6)):=fun W c=>⟨c.rd,hz.out,by omega⟩
  have tb:Hid (∀ W,Below w.heap.size w W→Tab W.heap.size W):=fun W hb=>Tab.up (ht.out.on hb) hb.size
  have k1:=hide (fun W (c:Cx w n x h (.slice a1 m1 d1) (.slice a2 m2 d2) (.slice e1 e2 e3) (.slice e4 e5 e6) w2.heap.size W)=>jwrite_any n x _ _ W (Ro.out W c) hg.out (g.out.below c.below) (tb.out W c.below) E hE)
  have k2:=hide (fun W (c:Cx w n x h (.slice a1 m1 d1) (.slice a2 m2 d2) (.slice e1 e2 e3) (.slice e4 e5 e6) w2.heap.size W)=>rwrite_any n x _ _ W (Rv.out W c.below) hg.out E hE (fun W1 hb=>rck.out n x _ _ W1 ((Rv.out W c.below).below hb) E hE))
  have k7:=hide (fun W (c:Cx w n x h (.slice a1 m1 d1) (.slice a2 m2 d2) (.slice e1 e2 e3) (.slice e4 e5 e6) w2.heap.size W)=>Calls.tb (b:=true) (requal_any n x x _ _ _ _ W (Ro.out W c).rd (Rv.out W c.below).rd) (by simp))
  have k8:=hide (fun W (c:Cx w n x h (.slice a1 m1 d1) (.slice a2 m2 d2) (.slice e1 e2 e3) (.slice e4 e5 e6) w2.heap.size W)=>awake_any W (g.out.below c.below) (tb.out W c.below) (Nat.le_trans h8 c.below.size))
  rw [hh'.out] at k1 k2 k7
  simp only [vals] at k1 k2 k7
  obtain ⟨J,hJ⟩:∃ J,jtx n x=J:=⟨_,rfl⟩
  rw [hJ] at k2
  have hJ':=hide hJ
  clear hE hsz hJ Rv Ro hcp hbig hB0 hb0
  go_wp2_with fail
  refine (k1.out _ C2.out).mono ?_
  rintro e w3 ⟨hb3,p1,p2⟩
  rw [hJ'.out] at p2
  have C3:=hide (C2.out.then hb3)
  clear hb3 C2
  have p1':=hide p1
  have p2':=hide p2
  clear p1 p2
  by_cases hE0:E=0
  ·subst hE0
   by_cases hz:J.length≤65536
   ·obtain ⟨ab,mb,cb0,rfl,hob⟩:=(p2'.out rfl).1 hz
    have hOb:=hide hob
    clear hob
    obtain ⟨q0,q1,q2,q3,q4,q5,q6,q7,q8⟩:=C3.out.ba.cells
    go_wp2_with fail
    refine (k2.out _ C3.out).mono ?_
    rintro e w4 ⟨hb4,r1,r2⟩
    have C4:=hide (C3.out.then hb4)
    have B4:=hide hb4
    obtain ⟨aw,cw,rfl,hrw⟩:=(r2 rfl).1 hz
    have hRw:=hide hrw
    clear hrw
    clear hb4 q0 q1 q2 q3 q4 q5 q6 q7 q8 r1 r2
    obtain ⟨p0,p1,p2,p3,p4,p5,p6,p7,p8⟩:=C4.out.ba.cells
    obtain ⟨q0,q1,q2,q3,q4,q5,q6,q7,q8⟩:=C4.out.bb.cells
    go_wp2_with fail
    refine (k8.out _ C4.out).mono ?_
    rintro e w5 ⟨rfl,hb5⟩
    have C5:=hide (C4.out.then hb5)
    have cb:=own_conv (ownsRow_of hOb.out fun k _ hlt=>((below_then B4.out hb5).block k hlt))
    have cw2:=hRw.out w5 hb5
    clear hb5 p0 p1 p2 p3 p4 p5 p6 p7 p8 q0 q1 q2 q3 q4 q5 q6 q7 q8
    obtain ⟨p0,p1,p2,p3,p4,p5,p6,p7,p8⟩:=C5.out.ba.cells
    obtain ⟨q0,q1,q2,q3,q4,q5,q6,q7,q8⟩:=C5.out.bb.cells
    go_wp2_with fail
    refine (k7.out _ C5.out).mono ?_
    rintro e w6 ⟨rfl,hb6⟩
    have C6:=hide (C5.out.then hb6)
    clear hb6
    go_wp2_with fail
    go_ret
    exact ⟨by first|rfl|(simp;done),C6.out.below⟩
   ·have hz2:65536<J.length:=by omega
    have r3:=(p2'.out rfl).2 hz2
    subst r3
    obtain ⟨q0,q1,q2,q3,q4,q5,q6,q7,q8⟩:=C3.out.ba.cells
    go_wp2_with fail
    refine (k2.out _ C3.out).mono ?_
    rintro e w4 ⟨hb4,r1,r2⟩
    have C4:=hide (C3.out.then hb4)
    have B4:=hide hb4
    have r4:=(r2 rfl).2 hz2
    subst r4
    clear hb4 q0 q1 q2 q3 q4 q5 q6 q7 q8 r1 r2
    obtain ⟨p0,p1,p2,p3,p4,p5,p6,p7,p8⟩:=C4.out.ba.cells
    obtain ⟨q0,q1,q2,q3,q4,q5,q6,q7,q8⟩:=C4.out.bb.cells
    go_wp2_with fail
    refine (k8.out _ C4.out).mono ?_
    rintro e w5 ⟨rfl,hb5⟩
    have C5:=hide (C4.out.then hb5)
    have cb:=own_conv (own_nil w5 0)
    clear hb5 p0 p1 p2 p3 p4 p5 p6 p7 p8 q0 q1 q2 q3 q4 q5 q6 q7 q8
    obtain ⟨p0,p1,p2,p3,p4,p5,p6,p7,p8⟩:=C5.out.ba.cells
    obtain ⟨q0,q1,q2,q3,q4,q5,q6,q7,q8⟩:=C5.out.bb.cells
    go_wp2_with fail
    refine (k7.out _ C5.out).mono ?_
    rintro e w6 ⟨rfl,hb6⟩
    have C6:=hide (C5.out.then hb6)
    clear hb6
    go_wp2_with fail
    go_ret
    exact ⟨by first|rfl|(simp;done),C6.out.below⟩
  ·have r3:=p1'.out hE0
   subst r3
   have hE0':=hide hE0
   clear hE0
   obtain ⟨q0,q1,q2,q3,q4,q5,q6,q7,q8⟩:=C3.out.ba.cells
   go_wp2_with fail
   refine (k2.out _ C3.out).mono ?_
   rintro e w4 ⟨hb4,r1,r2⟩
   have C4:=hide (C3.out.then hb4)
   have B4:=hide hb4
   have r4:=r1 hE0'.out
   subst r4
   clear hb4 q0 q1 q2 q3 q4 q5 q6 q7 q8 r1 r2
   obtain ⟨p0,p1,p2,p3,p4,p5,p6,p7,p8⟩:=C4.out.ba.cells
   obtain ⟨q0,q1,q2,q3,q4,q5,q6,q7,q8⟩:=C4.out.bb.cells
   go_wp2_with fail
   refine (k8.out _ C4.out).mono ?_
   rintro e w5 ⟨rfl,hb5⟩
   have C5:=hide (C4.out.then hb5)
   have cb:=own_conv (own_nil w5 0)
   clear hb5 p0 p1 p2 p3 p4 p5 p6 p7 p8 q0 q1 q2 q3 q4 q5 q6 q7 q8
   obtain ⟨p0,p1,p2,p3,p4,p5,p6,p7,p8⟩:=C5.out.ba.cells
   obtain ⟨q0,q1,q2,q3,q4,q5,q6,q7,q8⟩:=C5.out.bb.cells
   go_wp2_with fail
   refine (k7.out _ C5.out).mono ?_
   rintro e w6 ⟨rfl,hb6⟩
   have C6:=hide (C5.out.then hb6)
   clear hb6
   go_wp2_with fail
   go_ret
   exact ⟨by first|rfl|(simp;done),C6.out.below⟩
 ·go_wp2_with fail
  go_ret
  exact ⟨rfl,hw1.out⟩
end Go.Proofs.YtpimjkdakjhoaaaGreatDoor
