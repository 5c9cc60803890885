/- Merged by program: MvRound. -/
import Derived.Test.YtpimjkdakjhoaaaGreatDoorZk53
namespace Go.Proofs.YtpimjkdakjhoaaaGreatDoor
open Go.RowKit
set_option linter.unusedSimpArgs false
set_option linter.unusedVariables false
set_option maxHeartbeats 8000000
structure Rz (w:World) (h:Hd) (ns ls:Value) (W:World):Prop where
 below:Below w.heap.size w W
 ba:Bx W w.heap.size h ns ls
theorem Rz.then {w W W1:World} {h:Hd} {ns ls:Value} (c:Rz w h ns ls W) (hb:Below W.heap.size W W1):Rz w h ns ls W1:=⟨below_then c.below hb,c.ba.below hb⟩
theorem Rz.al {w W:World} {h:Hd} {ns ls:Value} {o:Obj} (c:Rz w h ns ls W):Rz w h ns ls (W.alloc o):=c.then (below_al (Below.refl _ _))
set_option maxRecDepth 100000 in
theorem round_law (n:Nat) (x:VT n) (ns ls:Value) (va:Option Addr) (vc:Nat) (l:List UInt8) (w:World) (hx:RD n w x ns ls) (zx:Sz n x) (rx:Rg n x) (hl:l.length≤maxLen) (hv:l.length≤131072→RB w (.slice va l.length vc) l) (g:Ut.Gu w) (ht:Tab w.heap.size w) (h8:8≤w.heap.size) :
  Calls Tryz.prog 4 #[.agg (vals (vhd n x) ns ls),.slice va l.length vc] w fun e w'=>e=.returned (.bool true)∧Below w.heap.size w w':=by
 have ml:maxLen=9223372036854775807:=rfl
 obtain ⟨a1,a2,a3,a4,a5,a6,rfl,rfl⟩:=hx.shape
 obtain ⟨hp,hhp⟩:∃ h,vhd n x=h:=⟨_,rfl⟩
 have gx:=hide (fun W (hb:Below w.heap.size w W)=>Go.Proofs.YtpimjkdakjhoaaaGreatDoor.big_any n x _ _ W (hx.below hb) zx)
 have T0:Hid (∀ o,o=.cells (vals hp (.slice a1 a2 a3) (.slice a4 a5 a6)) 29→Rz w hp (.slice a1 a2 a3) (.slice a4 a5 a6) (w.alloc o)):=fun o e=>by rw [e];exact ⟨below_al (Below.refl _ _),bx_new _ _ _ _⟩
 have tb:Hid (∀ W,Below w.heap.size w W→Tab W.heap.size W):=fun W hb=>Tab.up (ht.on hb) hb.size
 have sz8:Hid (∀ W,Below w.heap.size w W→8≤W.heap.size):=fun W hb=>Nat.le_trans h8 hb.size
 have aw:=hide (aw_ok w g ht h8)
 have hAw:Hid (∀ W,Below w.heap.size w W→Calls Tryz.prog 12 #[] W fun e w'=>e=.returned (.bool true)∧Below W.heap.size W w'):=aw.out
 replace hx:=hide hx
 replace zx:=hide zx
 replace rx:=hide rx
 replace g:=hide g
 replace ht:=hide ht
 replace h8:=hide h8
 replace hv:=hide hv
 rw [hhp] at gx ⊢
 replace hhp:=hide hhp
 obtain ⟨L,hL⟩:∃ L,l.length=L:=⟨_,rfl⟩
 have hL':=hide hL
 rw [hL] at hl ⊢
 clear hL aw
 have hlm:(L:Int)≤9223372036854775807:=by omega
 show Calls _ _ #[.agg #[.int .i64 hp.kind,.bool hp.flag,.bool hp.neg,.string hp.dig,.int .i64 hp.exp,.int .u64 hp.bits,.string hp.text,.slice a1 a2 a3,.slice a4 a5 a6],.slice va L vc] _ _
 go_enter Tryz.func4, Tryz.ntmps4
 go_wp2_with fail
 refine (gx.out _ (T0.out _ rfl).below).mono ?_
 rintro e w1 ⟨bb,rfl,sx,hb1⟩
 have T1:=hide ((T0.out _ rfl).then hb1)
 clear T0 hb1 gx
 cases bb
 ·replace sx:=hide (sx.out (by simp))
  by_cases hlong:131072<L
  ·have hd1:decide ((131072:Int)<(L:Int))=true:=decide_eq_true (by omega)
   go_wp2_with fail
   go_ret
   exact ⟨rfl,T1.out.below⟩
  ·have hd1:decide ((131072:Int)<(L:Int))=false:=decide_eq_false (by omega)
   have hL3:L≤131072:=by omega
   have RV:=hide (fun W (hb:Below w.heap.size w W)=>(hv.out (by rw [hL'.out];exact hL3)).below hb)
   rw [hL'.out] at RV
   have nst:=hide (fun W (hb:Below w.heap.size w W)=>nests_any _ l W (RV.out W hb))
   clear hlong hL3
   go_wp2_with fail
   refine (nst.out _ T1.out.below).mono ?_
   rintro e w2 ⟨⟨qn,rfl⟩,m2,rfl⟩
   have T2:Hid (Rz w hp (.slice a1 a2 a3) (.slice a4 a5 a6) (w1.drewN m2)):=T1.out.then ⟨rfl,rfl,rfl,Nat.le_refl _,fun _ _=>rfl⟩
   obtain ⟨w2,hw2⟩:∃ w2,w1.drewN m2=w2:=⟨_,rfl⟩
   rw [hw2] at T2 ⊢
   clear hw2 T1 nst
   cases qn
   ·have bx:siz n x≤65536:=Nat.le_trans (siz_blk n x) sx.out.1
    have Rx:Hid (∀ W,Below w.heap.size w W→Rdy n W x _ _):=fun W hb=>⟨hx.out.below hb,zx.out,by omega⟩
    have c1:=hide (fun W (hb:Below w.heap.size w W)=>jx_any n x _ _ W (Rx.out W hb) rx.out (g.out.below hb) (tb.out W hb))
    rw [hhp.out] at c1
    clear bx sx
    obtain ⟨p0,p1,p2,p3,p4,p5,p6,p7,p8⟩:=T2.out.ba.cells
    go_wp2_with fail
    refine (c1.out _ T2.out.below).mono ?_
    rintro e w3 ⟨hb3,ra,rm,rc,C1,rfl,o1,_⟩
    have T3:=hide (T2.out.then hb3)
    have O1:=hide o1
    clear T2 hb3 o1 c1 p0 p1 p2 p3 p4 p5 p6 p7 p8
    by_cases e1:C1=0
    ·subst e1
     obtain ⟨k1,l1,u1⟩:=O1.out rfl
     obtain ⟨rfl,rb1⟩:=rb_own u1 l1
     have c2:=hide (read_ok w3 ra rc (jtx n x) rb1 (g.out.below T3.out.below) (sz8.out _ T3.out.below) (fl n x) (read_wrote n x k1 rx.out l1))
     obtain ⟨J1,hJ1⟩:∃ J,(jtx n x).length=J:=⟨_,rfl⟩
     rw [hJ1] at c2 ⊢
     replace k1:=hide k1
     clear hJ1 l1 u1 rb1 O1
     go_wp2_with fail
     refine c2.out.mono ?_
     rintro e w4 ⟨hb4,y,b1,b2,b3,b4,b5,b6,rfl,f1,k4,r4,d4⟩
     have T4:=hide (T3.out.then hb4)
     have RB4:=hide d4
     have F1:=hide f1
     obtain ⟨hq,hhq⟩:∃ h,vhd (fl n x).length y=h:=⟨_,rfl⟩
     have kq:=hide (fun W (hb:Below w.heap.size w W) (hb4:Below w4.heap.size w4 W)=>equal_tells (fl n x).length n y x (.slice b1 b2 b3) (.slice b4 b5 b6) (.slice a1 a2 a3) (.slice a4 a5 a6) W (RB4.out.rd.below hb4) (hx.out.below hb) ((chk_zero k4).1 rfl).1 ((chk_zero k1.out).1 rfl).1 F1.out.symm)
     rw [hhq,hhp.out] at kq
     rw [hhq]
     simp only [vals] at kq ⊢
     clear T3 hb4 c2 f1 k4 r4 d4 hhq
     have p0:=fun o=>(T4.out.al (o:=o)).ba.cells.1
     have p1:=fun o=>(T4.out.al (o:=o)).ba.cells.2.1
     have p2:=fun o=>(T4.out.al (o:=o)).ba.cells.2.2.1
     have p3:=fun o=>(T4.out.al (o:=o)).ba.cells.2.2.2.1
     have p4:=fun o=>(T4.out.al (o:=o)).ba.cells.2.2.2.2.1
     have p5:=fun o=>(T4.out.al (o:=o)).ba.cells.2.2.2.2.2.1
     have p6:=fun o=>(T4.out.al (o:=o)).ba.cells.2.2.2.2.2.2.1
     have p7:=fun o=>(T4.out.al (o:=o)).ba.cells.2.2.2.2.2.2.2.1
     have p8:=fun o=>(T4.out.al (o:=o)).ba.cells.2.2.2.2.2.2.2.2
     go_wp2_with fail
     refine (kq.out _ T4.out.al.below (below_al (Below.refl _ _))).mono ?_
     rintro e w5 ⟨rfl,hb5⟩
     have T5:=hide (T4.out.al.then hb5)
     clear kq hb5 p0 p1 p2 p3 p4 p5 p6 p7 p8 T4 RB4 F1 k1
     cases hR:readS l with
     | inl E =>
      have hE:=readS_er hR
      have e0:(E != 0)=true:=by simpa using hE
      have d1:=hide (fun W (hb:Below w.heap.size w W)=>read_no W va vc l (by rw [hL'.out];exact RV.out W hb) (g.out.below hb) (sz8.out _ hb) E hR)
      rw [hL'.out] at d1
      simp only [zV] at d1
      replace hR:=hide hR
      replace hE:=hide hE
      go_wp2_with fail
      refine (d1.out _ T5.out.below).mono ?_
      rintro e v1 ⟨hv1,rfl⟩
      have U1:=hide (T5.out.then hv1)
      clear hv1 d1
      go_wp2_with fail
      refine (hAw.out _ U1.out.al.below).mono ?_
      rintro e v2 ⟨rfl,hv2⟩
      have U2:=hide (U1.out.al.then hv2)
      clear hv2
      go_wp2_with fail
      go_ret
      exact ⟨rfl,U2.out.below⟩
     | inr es =>
      have d1:=hide (fun W (hb:Below w.heap.size w W)=>read_ok W va vc l (by rw [hL'.out];exact RV.out W hb) (g.out.below hb) (sz8.out _ hb) es hR)
      rw [hL'.out] at d1
      replace hR:=hide hR
      go_wp2_with fail
      refine (d1.out _ T5.out.below).mono ?_
      rintro e v1 ⟨hv1,z,c1,c2,c3,c4,c5,c6,rfl,g1,kz,rz,dz⟩
      have U1:=hide (T5.out.then hv1)
      have DZ:=hide dz
      have G1:=hide g1
      have KZ:=hide kz
      have RZ:=hide rz
      obtain ⟨hq,hhq⟩:∃ h,vhd es.length z=h:=⟨_,rfl⟩
      have HQ:=hide hhq
      obtain ⟨v1a,hv1a⟩:∃ v1a,v1.alloc (.cells (vals hq (.slice c1 c2 c3) (.slice c4 c5 c6)) 29)=v1a:=⟨_,rfl⟩
      have U2:Hid (Rz w hp (.slice a1 a2 a3) (.slice a4 a5 a6) v1a):=by show Rz _ _ _ _ _;rw [←hv1a];exact U1.out.al
      have X2:Hid (Bx v1a v1.heap.size hq (.slice c1 c2 c3) (.slice c4 c5 c6)):=by show Bx _ _ _ _ _;rw [←hv1a];exact bx_new _ _ _ _
      have DZ2:Hid (∀ W,Below v1a.heap.size v1a W→Rdy es.length W z (.slice c1 c2 c3) (.slice c4 c5 c6)):=fun W hb=>DZ.out.below (below_then (by rw [←hv1a];exact below_al (Below.refl _ _)) hb)
      have k2:=hide (jy_any es.length z _ _ v1a (DZ2.out _ (Below.refl _ _)) RZ.out (g.out.below U2.out.below) (tb.out _ U2.out.below) KZ.out)
      rw [hhq] at k2 ⊢
      simp only [vals] at k2 hv1a ⊢
      clear hv1 d1 dz g1 kz rz hhq DZ U1
      obtain ⟨q0,q1,q2,q3,q4,q5,q6,q7,q8⟩:=X2.out.cells
      go_wp2_with fail
      clear hv1a
      refine k2.out.mono ?_
      rintro e v2 ⟨hv2,hj⟩
      have U3:=hide (U2.out.then hv2)
      have X3:=hide (X2.out.below hv2)
      have B2:=hide hv2
      clear hv2 k2 q0 q1 q2 q3 q4 q5 q6 q7 q8
      rcases hj with ⟨hlong,rfl⟩|⟨hok,ya,yc,rfl,yo⟩
      ·replace hlong:=hide hlong
       go_wp2_with fail
       refine (hAw.out _ U3.out.below).mono ?_
       rintro e v3 ⟨rfl,hv3⟩
       have U4:=hide (U3.out.then hv3)
       clear hv3
       go_wp2_with fail
       go_ret
       exact ⟨by first|rfl|(simp;done),U4.out.below⟩
      ·have YO:=hide yo
       have hrw:=read_wrote es.length z KZ.out RZ.out hok
       rw [←G1.out] at hrw
       have d3:=hide (read_ok v2 ya yc (jtx es.length z) (rb_own yo hok).2 (g.out.below U3.out.below) (sz8.out _ U3.out.below) es hrw)
       obtain ⟨J2,hJ2⟩:∃ J,(jtx es.length z).length=J:=⟨_,rfl⟩
       have HJ2:=hide hJ2
       rw [hJ2] at d3 ⊢
       replace hok:=hide hok
       clear hJ2 hrw yo
       go_wp2_with fail
       refine d3.out.mono ?_
       rintro e v3 ⟨hv3,z',e1,e2,e3,e4,e5,e6,rfl,g3,k3,r3,d3'⟩
       have hzz:z'=z:=(fl_inj es.length z' z ((chk_zero k3).1 rfl).1 ((chk_zero KZ.out).1 rfl).1 [] [] (by rw [←g3,←G1.out])).1
       subst hzz
       have U4:=hide (U3.out.then hv3)
       have X4:=hide (X3.out.below hv3)
       have D3:=hide d3'
       have B3:=hide hv3
       obtain ⟨v3a,hv3a⟩:∃ v3a,v3.alloc (.cells (vals hq (.slice e1 e2 e3) (.slice e4 e5 e6)) 29)=v3a:=⟨_,rfl⟩
       have U5:Hid (Rz w hp (.slice a1 a2 a3) (.slice a4 a5 a6) v3a):=by show Rz _ _ _ _ _;rw [←hv3a];exact U4.out.al
       have X5:Hid (Bx v3a v1.heap.size hq (.slice c1 c2 c3) (.slice c4 c5 c6)):=by show Bx _ _ _ _ _;rw [←hv3a];exact X4.out.below (below_al (Below.refl _ _))
       have Y5:Hid (Bx v3a v3.heap.size hq (.slice e1 e2 e3) (.slice e4 e5 e6)):=by show Bx _ _ _ _ _;rw [←hv3a];exact bx_new _ _ _ _
       have D5:Hid (∀ W,Below v3a.heap.size v3a W→Rdy es.length W z' (.slice e1 e2 e3) (.slice e4 e5 e6)):=fun W hb=>D3.out.below (below_then (by rw [←hv3a];exact below_al (Below.refl _ _)) hb)
       have B35:Hid (Below v2.heap.size v2 v3a):=by show Below _ _ _;rw [←hv3a];exact below_al B3.out
       have k4:=hide (jy_any es.length z' _ _ v3a (D5.out _ (Below.refl _ _)) RZ.out (g.out.below U5.out.below) (tb.out _ U5.out.below) KZ.out)
       rw [HQ.out] at k4 ⊢
       simp only [vals] at k4 hv3a ⊢
       clear hv3 d3 g3 k3 r3 d3' U4 X4 D3 B3
       obtain ⟨q0,q1,q2,q3,q4,q5,q6,q7,q8⟩:=Y5.out.cells
       go_wp2_with fail
       clear hv3a
       refine k4.out.mono ?_
       rintro e v4 ⟨hv4,hj4⟩
       rcases hj4 with ⟨hbad,_⟩|⟨_,za,zc,rfl,zo⟩
       ·have:=hok.out;exact absurd hbad (by omega)
       have U6:=hide (U5.out.then hv4)
       have X6:=hide (X5.out.below hv4)
       have Y6:=hide (Y5.out.below hv4)
       have B4:=hide hv4
       have ZO:=hide zo
       rw [HJ2.out]
       clear hv4 k4 zo q0 q1 q2 q3 q4 q5 q6 q7 q8
       have kq2:=hide (fun W (hb:Below v4.heap.size v4 W)=>equal_tells es.length es.length z' z' (.slice e1 e2 e3) (.slice e4 e5 e6) (.slice c1 c2 c3) (.slice c4 c5 c6) W (D5.out _ (below_then B4.out hb)).rd (DZ2.out _ (below_then (below_then B2.out B35.out) (below_then B4.out hb))).rd ((chk_zero KZ.out).1 rfl).1 ((chk_zero KZ.out).1 rfl).1 rfl)
       rw [HQ.out] at kq2
       simp only [vals] at kq2
       go_wp2_with fail
       refine (hAw.out _ U6.out.below).mono ?_
       rintro e v5 ⟨rfl,hv5⟩
       have U7:=hide (U6.out.then hv5)
       have B5:=hide hv5
       obtain ⟨q0,q1,q2,q3,q4,q5,q6,q7,q8⟩:=(X6.out.below hv5).cells
       obtain ⟨o0,o1,o2,o3,o4,o5,o6,o7,o8⟩:=(Y6.out.below hv5).cells
       clear hv5
       go_wp2_with fail
       refine (kq2.out _ B5.out).mono ?_
       rintro e v6 ⟨rfl,hv6⟩
       have U8:=hide (U7.out.then hv6)
       have cz:=own_conv (own_of (own_of ZO.out fun k _ hlt=>B5.out.block k hlt) fun k _ hlt=>hv6.block k hlt)
       have cy:=own_conv (own_of YO.out fun k _ hlt=>(below_then (below_then B35.out B4.out) (below_then B5.out hv6)).block k hlt)
       rw [HJ2.out] at cz cy
       obtain ⟨A,hA⟩:∃ A,mkB (jtx es.length z')=A:=⟨_,rfl⟩
       rw [hA] at cz cy
       clear hv6 hA q0 q1 q2 q3 q4 q5 q6 q7 q8 o0 o1 o2 o3 o4 o5 o6 o7 o8
       go_wp2_with fail
       go_ret
       exact ⟨by first|rfl|(simp;done),U8.out.below⟩
    ·have e1n:(C1==0)=false:=by simpa using e1
     replace e1:=hide e1
     cases hR:readS l with
     | inl E =>
      have hE:=readS_er hR
      have e0:(E != 0)=true:=by simpa using hE
      have d1:=hide (fun W (hb:Below w.heap.size w W)=>read_no W va vc l (by rw [hL'.out];exact RV.out W hb) (g.out.below hb) (sz8.out _ hb) E hR)
      rw [hL'.out] at d1
      simp only [zV] at d1
      replace hR:=hide hR
      replace hE:=hide hE
      go_wp2_with fail
      refine (d1.out _ T3.out.below).mono ?_
      rintro e v1 ⟨hv1,rfl⟩
      have U1:=hide (T3.out.then hv1)
      clear hv1 d1
      go_wp2_with fail
      refine (hAw.out _ U1.out.al.below).mono ?_
      rintro e v2 ⟨rfl,hv2⟩
      have U2:=hide (U1.out.al.then hv2)
      clear hv2
      go_wp2_with fail
      go_ret
      exact ⟨rfl,U2.out.below⟩
     | inr es =>
      have d1:=hide (fun W (hb:Below w.heap.size w W)=>read_ok W va vc l (by rw [hL'.out];exact RV.out W hb) (g.out.below hb) (sz8.out _ hb) es hR)
      rw [hL'.out] at d1
      replace hR:=hide hR
      go_wp2_with fail
      refine (d1.out _ T3.out.below).mono ?_
      rintro e v1 ⟨hv1,z,c1,c2,c3,c4,c5,c6,rfl,g1,kz,rz,dz⟩
      have U1:=hide (T3.out.then hv1)
      have DZ:=hide dz
      have G1:=hide g1
      have KZ:=hide kz
      have RZ:=hide rz
      obtain ⟨hq,hhq⟩:∃ h,vhd es.length z=h:=⟨_,rfl⟩
      have HQ:=hide hhq
      obtain ⟨v1a,hv1a⟩:∃ v1a,v1.alloc (.cells (vals hq (.slice c1 c2 c3) (.slice c4 c5 c6)) 29)=v1a:=⟨_,rfl⟩
      have U2:Hid (Rz w hp (.slice a1 a2 a3) (.slice a4 a5 a6) v1a):=by show Rz _ _ _ _ _;rw [←hv1a];exact U1.out.al
      have X2:Hid (Bx v1a v1.heap.size hq (.slice c1 c2 c3) (.slice c4 c5 c6)):=by show Bx _ _ _ _ _;rw [←hv1a];exact bx_new _ _ _ _
      have DZ2:Hid (∀ W,Below v1a.heap.size v1a W→Rdy es.length W z (.slice c1 c2 c3) (.slice c4 c5 c6)):=fun W hb=>DZ.out.below (below_then (by rw [←hv1a];exact below_al (Below.refl _ _)) hb)
      have k2:=hide (jy_any es.length z _ _ v1a (DZ2.out _ (Below.refl _ _)) RZ.out (g.out.below U2.out.below) (tb.out _ U2.out.below) KZ.out)
      rw [hhq] at k2 ⊢
      simp only [vals] at k2 hv1a ⊢
      clear hv1 d1 dz g1 kz rz hhq DZ U1
      obtain ⟨q0,q1,q2,q3,q4,q5,q6,q7,q8⟩:=X2.out.cells
      go_wp2_with fail
      clear hv1a
      refine k2.out.mono ?_
      rintro e v2 ⟨hv2,hj⟩
      have U3:=hide (U2.out.then hv2)
      have X3:=hide (X2.out.below hv2)
      have B2:=hide hv2
      clear hv2 k2 q0 q1 q2 q3 q4 q5 q6 q7 q8
      rcases hj with ⟨hlong,rfl⟩|⟨hok,ya,yc,rfl,yo⟩
      ·replace hlong:=hide hlong
       go_wp2_with fail
       refine (hAw.out _ U3.out.below).mono ?_
       rintro e v3 ⟨rfl,hv3⟩
       have U4:=hide (U3.out.then hv3)
       clear hv3
       go_wp2_with fail
       go_ret
       exact ⟨by first|rfl|(simp;done),U4.out.below⟩
      ·have YO:=hide yo
       have hrw:=read_wrote es.length z KZ.out RZ.out hok
       rw [←G1.out] at hrw
       have d3:=hide (read_ok v2 ya yc (jtx es.length z) (rb_own yo hok).2 (g.out.below U3.out.below) (sz8.out _ U3.out.below) es hrw)
       obtain ⟨J2,hJ2⟩:∃ J,(jtx es.length z).length=J:=⟨_,rfl⟩
       have HJ2:=hide hJ2
       rw [hJ2] at d3 ⊢
       replace hok:=hide hok
       clear hJ2 hrw yo
       go_wp2_with fail
       refine d3.out.mono ?_
       rintro e v3 ⟨hv3,z',e1,e2,e3,e4,e5,e6,rfl,g3,k3,r3,d3'⟩
       have hzz:z'=z:=(fl_inj es.length z' z ((chk_zero k3).1 rfl).1 ((chk_zero KZ.out).1 rfl).1 [] [] (by rw [←g3,←G1.out])).1
       subst hzz
       have U4:=hide (U3.out.then hv3)
       have X4:=hide (X3.out.below hv3)
       have D3:=hide d3'
       have B3:=hide hv3
       obtain ⟨v3a,hv3a⟩:∃ v3a,v3.alloc (.cells (vals hq (.slice e1 e2 e3) (.slice e4 e5 e6)) 29)=v3a:=⟨_,rfl⟩
       have U5:Hid (Rz w hp (.slice a1 a2 a3) (.slice a4 a5 a6) v3a):=by show Rz _ _ _ _ _;rw [←hv3a];exact U4.out.al
       have X5:Hid (Bx v3a v1.heap.size hq (.slice c1 c2 c3) (.slice c4 c5 c6)):=by show Bx _ _ _ _ _;rw [←hv3a];exact X4.out.below (below_al (Below.refl _ _))
       have Y5:Hid (Bx v3a v3.heap.size hq (.slice e1 e2 e3) (.slice e4 e5 e6)):=by show Bx _ _ _ _ _;rw [←hv3a];exact bx_new _ _ _ _
       have D5:Hid (∀ W,Below v3a.heap.size v3a W→Rdy es.length W z' (.slice e1 e2 e3) (.slice e4 e5 e6)):=fun W hb=>D3.out.below (below_then (by rw [←hv3a];exact below_al (Below.refl _ _)) hb)
       have B35:Hid (Below v2.heap.size v2 v3a):=by show Below _ _ _;rw [←hv3a];exact below_al B3.out
       have k4:=hide (jy_any es.length z' _ _ v3a (D5.out _ (Below.refl _ _)) RZ.out (g.out.below U5.out.below) (tb.out _ U5.out.below) KZ.out)
       rw [HQ.out] at k4 ⊢
       simp only [vals] at k4 hv3a ⊢
       clear hv3 d3 g3 k3 r3 d3' U4 X4 D3 B3
       obtain ⟨q0,q1,q2,q3,q4,q5,q6,q7,q8⟩:=Y5.out.cells
       go_wp2_with fail
       clear hv3a
       refine k4.out.mono ?_
       rintro e v4 ⟨hv4,hj4⟩
       rcases hj4 with ⟨hbad,_⟩|⟨_,za,zc,rfl,zo⟩
       ·have:=hok.out;exact absurd hbad (by omega)
       have U6:=hide (U5.out.then hv4)
       have X6:=hide (X5.out.below hv4)
       have Y6:=hide (Y5.out.below hv4)
       have B4:=hide hv4
       have ZO:=hide zo
       rw [HJ2.out]
       clear hv4 k4 zo q0 q1 q2 q3 q4 q5 q6 q7 q8
       have kq2:=hide (fun W (hb:Below v4.heap.size v4 W)=>equal_tells es.length es.length z' z' (.slice e1 e2 e3) (.slice e4 e5 e6) (.slice c1 c2 c3) (.slice c4 c5 c6) W (D5.out _ (below_then B4.out hb)).rd (DZ2.out _ (below_then (below_then B2.out B35.out) (below_then B4.out hb))).rd ((chk_zero KZ.out).1 rfl).1 ((chk_zero KZ.out).1 rfl).1 rfl)
       rw [HQ.out] at kq2
       simp only [vals] at kq2
       go_wp2_with fail
       refine (hAw.out _ U6.out.below).mono ?_
       rintro e v5 ⟨rfl,hv5⟩
       have U7:=hide (U6.out.then hv5)
       have B5:=hide hv5
       obtain ⟨q0,q1,q2,q3,q4,q5,q6,q7,q8⟩:=(X6.out.below hv5).cells
       obtain ⟨o0,o1,o2,o3,o4,o5,o6,o7,o8⟩:=(Y6.out.below hv5).cells
       clear hv5
       go_wp2_with fail
       refine (kq2.out _ B5.out).mono ?_
       rintro e v6 ⟨rfl,hv6⟩
       have U8:=hide (U7.out.then hv6)
       have cz:=own_conv (own_of (own_of ZO.out fun k _ hlt=>B5.out.block k hlt) fun k _ hlt=>hv6.block k hlt)
       have cy:=own_conv (own_of YO.out fun k _ hlt=>(below_then (below_then B35.out B4.out) (below_then B5.out hv6)).block k hlt)
       rw [HJ2.out] at cz cy
       obtain ⟨A,hA⟩:∃ A,mkB (jtx es.length z')=A:=⟨_,rfl⟩
       rw [hA] at cz cy
       clear hv6 hA q0 q1 q2 q3 q4 q5 q6 q7 q8 o0 o1 o2 o3 o4 o5 o6 o7 o8
       go_wp2_with fail
       go_ret
       exact ⟨by first|rfl|(simp;done),U8.out.below⟩
   ·go_wp2_with fail
    go_ret
    exact ⟨rfl,T2.out.below⟩
 ·go_wp2_with fail
  go_ret
  exact ⟨rfl,T1.out.below⟩
end Go.Proofs.YtpimjkdakjhoaaaGreatDoor
