/- Merged by program: SpRound, SqRound. -/
import Derived.Test.YtcnfchblfcfimaaGreatDoorZr42
set_option linter.unusedSimpArgs false
set_option linter.unusedVariables false
namespace Go.Proofs.YtcnfchblfcfimaaGreatDoor
namespace Lx
open Go.RowKit
set_option maxRecDepth 100000
set_option maxHeartbeats 16000000 in
theorem round_law (hP:ParseOk) (gk:Nat) (hg:1005≤gk) (n:Nat) (x:ET n) (qx:Sl) (m:Nat) (t:TT m) (qt:S2) (s:ByteArray) (w:World) (g:Gw w) (rx:RE n w x qx) (zx:ESz n x) (rt:RTq m w t qt) (zt:TSz m t) :
  Calls Tryz.prog 6 #[.agg (ecl (ehd n x) qx),.agg (tcl (thd m t) qt),.string s] w fun e w'=>e=.returned (.bool true)∧Below w.heap.size w w':=by
 have dq:{_f:(p:Prop)→Decidable p // True}:=⟨fun p=>Classical.propDecidable p,trivial⟩
 have hf:1025≤gk + 20:=by omega
 obtain ⟨x1,x2,x3,x4,x5,x6,x7,x8,x9,x10,x11,x12,hqs⟩:=rx.shape
 subst hqs
 obtain ⟨t1,t2,t3,t4,t5,t6,hqs⟩:=RTq.shape rt
 subst hqs
 have bx:=hide (fun W (hb:Below w.heap.size w W)=>bige_any n x ⟨.slice x1 x2 x3,.slice x4 x5 x6,.slice x7 x8 x9,.slice x10 x11 x12⟩ W (rx.below hb) zx)
 have bt:=hide (fun W (hb:Below w.heap.size w W)=>bigt_any m t (.slice t1 t2 t3) (.slice t4 t5 t6) W (RTq.below rt hb) zt)
 have aw:=hide (fun W (hb:Below w.heap.size w W)=>awake_any hP gk hg W (g.below hb))
 have px:=hide (fun (h:eblk n x≤32768) W (hb:Below w.heap.size w W)=>print_is (dq:=dq) hP n x ⟨.slice x1 x2 x3,.slice x4 x5 x6,.slice x7 x8 x9,.slice x10 x11 x12⟩ W (rx.below hb) (eblk_ge n x zx h) (by have:=esiz_eblk n x;omega) (g.below hb).gs)
 have pt:=hide (fun (h:tblk m t≤32768) W (hb:Below w.heap.size w W)=>ptprint_is (dq:=dq) hP m t ⟨.slice t1 t2 t3,.slice t4 t5 t6⟩ W (RTq.below rt hb) (tblk_gt m t zt h) (by have:=tsiz_tblk m t;omega) (g.below hb).gs (g.below hb).gt)
 have sx:=hide (fun W (hb:Below w.heap.size w W)=>par_same (dq:=dq) hP hf g rx W hb)
 have st:=hide (fun W (hb:Below w.heap.size w W)=>typ_same (dq:=dq) hP hf g rt W hb)
 have G:=hide g
 have hPh:=hide hP
 obtain ⟨hx,hhx⟩:∃ h,ehd n x=h:=⟨_,rfl⟩
 obtain ⟨ht,hht⟩:∃ h,thd m t=h:=⟨_,rfl⟩
 obtain ⟨S,hS⟩:∃ S,mkB (prX dq n x).2=S:=⟨_,rfl⟩
 obtain ⟨U,hU⟩:∃ U,mkB (prT dq m t).2=U:=⟨_,rfl⟩
 obtain ⟨ee,hee⟩:∃ e,(prX dq n x).1=e:=⟨_,rfl⟩
 obtain ⟨eg,heg⟩:∃ e,(prT dq m t).1=e:=⟨_,rfl⟩
 have K0:=hide (KR.new w hx ⟨.slice x1 x2 x3,.slice x4 x5 x6,.slice x7 x8 x9,.slice x10 x11 x12⟩ ht ⟨.slice t1 t2 t3,.slice t4 t5 t6⟩)
 have e1:∀ ns ls,tvs ht ns ls=#[.int .i64 ht.kind,ns,ls]:=fun _ _=>rfl
 rw [hhx] at bx px sx ⊢
 rw [hht] at bt pt st ⊢
 rw [hS] at px sx
 rw [hU] at pt st
 rw [hee] at px sx
 rw [heg] at pt st
 have c0:=K0.out.ex.cells
 simp only [ecl] at bx px sx
 simp only [tcl,tvs] at bt pt st
 clear hhx hht hS hU hee heg rx rt g hP e1 zx zt
 dsimp only at c0
 simp only [ecl,tcl,tvs] at K0
 dsimp only [ecl,tcl,tvs]
 go_enter Tryz.func6, Tryz.ntmps6
 go_wp2_with (go_at_call 13;refine Sto.out ?_)
 refine Sto.mk ?_
 refine (bx.out _ K0.out.bel).mono ?_
 rintro e w1 ⟨b1,rfl,H1,hb1⟩
 have K1:=hide (K0.out.below hb1)
 have c1:=K1.out.ct
 dsimp only at c1
 clear hb1 K0 c0 bx
 cases b1
 case true =>
  go_wp2_with fail
  go_ret
  exact ⟨rfl,K1.out.bel⟩
 go_wp2_with (go_at_call 19;refine Sto.out ?_)
 refine Sto.mk ?_
 refine (bt.out _ K1.out.bel).mono ?_
 rintro e w2 ⟨b2,rfl,H2,hb2⟩
 have K2:=hide (K1.out.below hb2)
 have c2:=K2.out.ex.cells
 dsimp only at c2
 clear hb2 K1 c1 bt
 cases b2
 case true =>
  go_wp2_with fail
  go_ret
  exact ⟨rfl,K2.out.bel⟩
 by_cases hl:(16384:Int)<(s.size:Int)
 ·go_wp2_with fail
  go_ret
  exact ⟨rfl,K2.out.bel⟩
 have px2:=hide (px.out (H1.out (by first|rfl|trivial)).1)
 have pt2:=hide (pt.out (H2.out (by first|rfl|trivial)).1)
 clear H1 H2 px pt
 go_wp2_with (go_at_call 15;refine Sto.out ?_)
 refine Sto.mk ?_
 refine (px2.out _ K2.out.bel).mono ?_
 rintro e w3 ⟨rfl,hb3⟩
 have K3:=hide (K2.out.below hb3)
 clear hb3 K2 c2 px2
 go_wp2_with (go_at_call 9;refine Sto.out ?_)
 refine Sto.mk ?_
 refine (sx.out _ K3.out.bel).mono ?_
 rintro e w4 ⟨hy,qy,kf,kp,rfl,hsy,hb4,hs4⟩
 obtain ⟨y1,y2,y3,y4,y5,y6,y7,y8,y9,y10,y11,y12,hqs⟩:=hsy
 subst hqs
 have hal:=below_al (o:=.cells (ecl hy ⟨.slice y1 y2 y3,.slice y4 y5 y6,.slice y7 y8 y9,.slice y10 y11 y12⟩) 33) (Below.refl w4.heap.size w4)
 have Y4:=hide (ex_at w4 hy ⟨.slice y1 y2 y3,.slice y4 y5 y6,.slice y7 y8 y9,.slice y10 y11 y12⟩)
 have K4:=hide ((K3.out.below hb4).below hal)
 have S4:=hide (fun (h:ee=0) W2 (hb:Below (w4.alloc (.cells (ecl hy ⟨.slice y1 y2 y3,.slice y4 y5 y6,.slice y7 y8 y9,.slice y10 y11 y12⟩) 33)).heap.size (w4.alloc (.cells (ecl hy ⟨.slice y1 y2 y3,.slice y4 y5 y6,.slice y7 y8 y9,.slice y10 y11 y12⟩) 33)) W2)=>((hs4 h).2 W2 (below_then hal hb)).1)
 have f4:Hid (ee=0→kf=0):=fun h=>(hs4 h).1
 have c4:=K4.out.ex.cells
 have d4:=Y4.out.cells
 clear hb4 hs4 hal sx K3
 simp only [ecl] at K4 S4 Y4
 dsimp only [ecl] at c4 d4 ⊢
 by_cases h0:ee=0
 ·have k0:=f4.out h0
  subst k0
  have h1:(ee==0)=true:=by simp [h0]
  go_wp2_with (go_at_call 12;refine Sto.out ?_)
  refine Sto.mk ?_
  refine (S4.out h0 _ (Below.refl _ _)).mono ?_
  rintro e w5 ⟨rfl,hb5⟩
  have K5:=hide (K4.out.below hb5)
  clear hb5 K4 c4 d4 Y4 S4 f4 h0 h1
  have c5:=K5.out.ct
  dsimp only at c5
  go_wp2_with (go_at_call 22;refine Sto.out ?_)
  refine Sto.mk ?_
  refine (pt2.out _ K5.out.bel).mono ?_
  rintro e w6 ⟨rfl,hb6⟩
  have K6:=hide (K5.out.below hb6)
  clear hb6 K5 c5 pt2
  go_wp2_with (go_at_call 20;refine Sto.out ?_)
  refine Sto.mk ?_
  refine (st.out _ K6.out.bel).mono ?_
  rintro e w7 ⟨hu,qu,kh,kq,rfl,hsu,hb7,hs7⟩
  obtain ⟨u1,u2,u3,u4,u5,u6,hqs⟩:=hsu
  subst hqs
  have hal:=below_al (o:=.cells (tcl hu ⟨.slice u1 u2 u3,.slice u4 u5 u6⟩) 48) (Below.refl w7.heap.size w7)
  have Y7:=hide (ty_new w7 hu ⟨.slice u1 u2 u3,.slice u4 u5 u6⟩)
  have K7:=hide ((K6.out.below hb7).below hal)
  have S7:=hide (fun (h:eg=0) W2 (hb:Below (w7.alloc (.cells (tcl hu ⟨.slice u1 u2 u3,.slice u4 u5 u6⟩) 48)).heap.size (w7.alloc (.cells (tcl hu ⟨.slice u1 u2 u3,.slice u4 u5 u6⟩) 48)) W2)=>(hs7 h).2 W2 (below_then hal hb))
  have f7:Hid (eg=0→kh=0):=fun h=>(hs7 h).1
  have c7:=K7.out.ct
  have d7:=Y7.out.cells
  clear hb7 hs7 hal st K6
  simp only [tcl,tvs] at K7 S7 Y7
  dsimp only [tcl,tvs] at c7 d7 ⊢
  by_cases g0:eg=0
  ·have k0:=f7.out g0
   subst k0
   have g1:(eg==0)=true:=by simp [g0]
   go_wp2_with (go_at_call 24;refine Sto.out ?_)
   refine Sto.mk ?_
   refine (S7.out g0 _ (Below.refl _ _)).mono ?_
   rintro e w8 ⟨rfl,hb8⟩
   have K8:=hide (K7.out.below hb8)
   clear hb8 K7 c7 d7 Y7 S7 f7 g0 g1
   have B8:=hide K8.out.bel
   clear K8
   cases hpz:paR dq (gk + 20) (bl s) with
   | inl y =>
    have pz:=hide (fun W (hb:Below w.heap.size w W)=>parse_no (dq:=dq) hPh.out hf (G.out.below hb) (s:=s) (by omega) hpz)
    have hy0:=pa_err hpz
    obtain ⟨ya,yb⟩:=y
    dsimp only at pz hy0
    have hy1:(ya==0)=false:=by simp [hy0]
    simp only [ze,zs,ecl,lf,vz,vH,vhd,nilB] at pz
    clear hy0 hpz hf
    go_wp2_with (go_at_call 9;refine Sto.out ?_)
    refine Sto.mk ?_
    refine (pz.out _ B8.out).mono ?_
    rintro e w9 ⟨rfl,hb9⟩
    have B9:=hide (below_al (o:=.cells #[.int .i64 0,.string ⟨#[]⟩,.slice none 0 0,.slice none 0 0,.int .i64 0,.bool false,.bool false,.string ⟨#[]⟩,.int .i64 0,.int .u64 0,.string ⟨#[]⟩,.slice none 0 0,.slice none 0 0] 33) (below_then B8.out hb9))
    clear hb9 B8 pz
    go_wp2_with (go_at_call 11;refine Sto.out ?_)
    refine Sto.mk ?_
    refine (aw.out _ B9.out).mono ?_
    rintro e w10 ⟨rfl,hb10⟩
    have B10:=hide (below_then B9.out hb10)
    clear hb10 B9 aw
    go_wp2_with fail
    go_ret
    exact ⟨rfl,B10.out⟩
   | inr z =>
    have pz:=hide (fun W (hb:Below w.heap.size w W)=>parse_ok (dq:=dq) hPh.out hf (G.out.below hb) (s:=s) (by omega) hpz)
    have hzl:=(rd_in hpz).2
    have hzb:=pa_bound hpz
    have prz:=hide (fun q W (hb:Below w.heap.size w W) (h:RE _ W z q)=>print_is (dq:=dq) hPh.out _ z q W h hzb.1 (by have:=hzb.2;omega) (G.out.below hb).gs)
    have srz:=hide (fun q W0 (hb0:Below w.heap.size w W0) (h:RE _ W0 z q) W (hb:Below W0.heap.size W0 W)=>par_same (dq:=dq) hPh.out hf (G.out.below hb0) h W hb)
    have hj:=prX_two hzl
    obtain ⟨hz,hhz⟩:∃ h,ehd _ z=h:=⟨_,rfl⟩
    obtain ⟨Z,hZ⟩:∃ Z,mkB (prX dq _ z).2=Z:=⟨_,rfl⟩
    obtain ⟨j,hjj⟩:∃ e,(prX dq _ z).1=e:=⟨_,rfl⟩
    rw [hhz] at pz prz srz
    rw [hZ] at prz srz
    rw [hjj] at prz srz hj
    clear hhz hZ hjj hzl hzb hpz hf
    go_wp2_with (go_at_call 9;refine Sto.out ?_)
    refine Sto.mk ?_
    refine (pz.out _ B8.out).mono ?_
    rintro e w9 ⟨qz,rfl,hr9,hb9⟩
    obtain ⟨z1,z2,z3,z4,z5,z6,z7,z8,z9,z10,z11,z12,hqs⟩:=hr9.shape
    subst hqs
    have hal:=below_al (o:=.cells (ecl hz ⟨.slice z1 z2 z3,.slice z4 z5 z6,.slice z7 z8 z9,.slice z10 z11 z12⟩) 33) (Below.refl w9.heap.size w9)
    have Z9:=hide (ex_at w9 hz ⟨.slice z1 z2 z3,.slice z4 z5 z6,.slice z7 z8 z9,.slice z10 z11 z12⟩)
    have R9:=hide (hr9.below hal)
    have B9:=hide (below_then (below_then B8.out hb9) hal)
    have pr9:=hide (prz.out _ _ B9.out R9.out)
    have sr9:=hide (srz.out _ _ B9.out R9.out)
    have c9:=Z9.out.cells
    clear hb9 B8 hal pz prz srz hr9
    simp only [ecl] at Z9 R9 B9 pr9 sr9
    dsimp only [ecl] at c9 ⊢
    go_wp2_with (go_at_call 15;refine Sto.out ?_)
    refine Sto.mk ?_
    refine pr9.out.mono ?_
    rintro e w10 ⟨rfl,hb10⟩
    have Z10:=hide (Z9.out.below hb10)
    have B10:=hide (below_then B9.out hb10)
    have sr10:=hide (sr9.out _ hb10)
    clear pr9 c9 sr9 R9 Z9 B9
    rcases hj with rfl|rfl
    ·clear hb10
     go_wp2_with (go_at_call 9;refine Sto.out ?_)
     refine Sto.mk ?_
     refine sr10.out.mono ?_
     rintro e w11 ⟨ha,qa,ka,kb,rfl,hsa,hb11,hs11⟩
     have hs12:=hs11 (by first|rfl|trivial)
     clear hs11
     obtain ⟨rfl,hs11⟩:=hs12
     obtain ⟨a1,a2,a3,a4,a5,a6,a7,a8,a9,a10,a11,a12,hqs⟩:=hsa
     subst hqs
     have hal:=below_al (o:=.cells (ecl ha ⟨.slice a1 a2 a3,.slice a4 a5 a6,.slice a7 a8 a9,.slice a10 a11 a12⟩) 33) (Below.refl w11.heap.size w11)
     have A11:=hide (ex_at w11 ha ⟨.slice a1 a2 a3,.slice a4 a5 a6,.slice a7 a8 a9,.slice a10 a11 a12⟩)
     have Z11:=hide ((Z10.out.below hb11).below hal)
     have B11:=hide (below_then (below_then B10.out hb11) hal)
     have S11:=hide (fun W2 (hb:Below (w11.alloc (.cells (ecl ha ⟨.slice a1 a2 a3,.slice a4 a5 a6,.slice a7 a8 a9,.slice a10 a11 a12⟩) 33)).heap.size (w11.alloc (.cells (ecl ha ⟨.slice a1 a2 a3,.slice a4 a5 a6,.slice a7 a8 a9,.slice a10 a11 a12⟩) 33)) W2)=>(hs11 W2 (below_then hal hb)).2)
     clear hb11 hs11 hal sr10 Z10 B10
     simp only [ecl] at A11 Z11 B11 S11
     dsimp only [ecl]
     go_wp2_with (go_at_call 11;refine Sto.out ?_)
     refine Sto.mk ?_
     refine (aw.out _ B11.out).mono ?_
     rintro e w12 ⟨rfl,hb12⟩
     have B12:=hide (below_then B11.out hb12)
     have a12:=(A11.out.below hb12).cells
     have z12:=(Z11.out.below hb12).cells
     have S12:=hide (S11.out _ hb12)
     clear hb12 B11 aw A11 Z11 S11
     dsimp only at a12 z12
     go_wp2_with (go_at_call 12;refine Sto.out ?_)
     refine Sto.mk ?_
     refine S12.out.mono ?_
     rintro e w13 ⟨rfl,hb13⟩
     have B13:=hide (below_then B12.out hb13)
     clear hb13 B12 a12 z12 S12
     go_wp2_with fail
     go_ret
     exact ⟨rfl,B13.out⟩
    ·clear hb10 sr10 Z10
     go_wp2_with (go_at_call 11;refine Sto.out ?_)
     refine Sto.mk ?_
     refine (aw.out _ B10.out).mono ?_
     rintro e w12 ⟨rfl,hb12⟩
     have B12:=hide (below_then B10.out hb12)
     clear hb12 B10 aw
     go_wp2_with fail
     go_ret
     exact ⟨rfl,B12.out⟩
  ·have g1:(eg==0)=false:=by simp [g0]
   have K8:=hide K7.out
   clear K7 c7 d7 Y7 S7 f7 g0
   have B8:=hide K8.out.bel
   clear K8
   cases hpz:paR dq (gk + 20) (bl s) with
   | inl y =>
    have pz:=hide (fun W (hb:Below w.heap.size w W)=>parse_no (dq:=dq) hPh.out hf (G.out.below hb) (s:=s) (by omega) hpz)
    have hy0:=pa_err hpz
    obtain ⟨ya,yb⟩:=y
    dsimp only at pz hy0
    have hy1:(ya==0)=false:=by simp [hy0]
    simp only [ze,zs,ecl,lf,vz,vH,vhd,nilB] at pz
    clear hy0 hpz hf
    go_wp2_with (go_at_call 9;refine Sto.out ?_)
    refine Sto.mk ?_
    refine (pz.out _ B8.out).mono ?_
    rintro e w9 ⟨rfl,hb9⟩
    have B9:=hide (below_al (o:=.cells #[.int .i64 0,.string ⟨#[]⟩,.slice none 0 0,.slice none 0 0,.int .i64 0,.bool false,.bool false,.string ⟨#[]⟩,.int .i64 0,.int .u64 0,.string ⟨#[]⟩,.slice none 0 0,.slice none 0 0] 33) (below_then B8.out hb9))
    clear hb9 B8 pz
    go_wp2_with (go_at_call 11;refine Sto.out ?_)
    refine Sto.mk ?_
    refine (aw.out _ B9.out).mono ?_
    rintro e w10 ⟨rfl,hb10⟩
    have B10:=hide (below_then B9.out hb10)
    clear hb10 B9 aw
    go_wp2_with fail
    go_ret
    exact ⟨rfl,B10.out⟩
   | inr z =>
    have pz:=hide (fun W (hb:Below w.heap.size w W)=>parse_ok (dq:=dq) hPh.out hf (G.out.below hb) (s:=s) (by omega) hpz)
    have hzl:=(rd_in hpz).2
    have hzb:=pa_bound hpz
    have prz:=hide (fun q W (hb:Below w.heap.size w W) (h:RE _ W z q)=>print_is (dq:=dq) hPh.out _ z q W h hzb.1 (by have:=hzb.2;omega) (G.out.below hb).gs)
    have srz:=hide (fun q W0 (hb0:Below w.heap.size w W0) (h:RE _ W0 z q) W (hb:Below W0.heap.size W0 W)=>par_same (dq:=dq) hPh.out hf (G.out.below hb0) h W hb)
    have hj:=prX_two hzl
    obtain ⟨hz,hhz⟩:∃ h,ehd _ z=h:=⟨_,rfl⟩
    obtain ⟨Z,hZ⟩:∃ Z,mkB (prX dq _ z).2=Z:=⟨_,rfl⟩
    obtain ⟨j,hjj⟩:∃ e,(prX dq _ z).1=e:=⟨_,rfl⟩
    rw [hhz] at pz prz srz
    rw [hZ] at prz srz
    rw [hjj] at prz srz hj
    clear hhz hZ hjj hzl hzb hpz hf
    go_wp2_with (go_at_call 9;refine Sto.out ?_)
    refine Sto.mk ?_
    refine (pz.out _ B8.out).mono ?_
    rintro e w9 ⟨qz,rfl,hr9,hb9⟩
    obtain ⟨z1,z2,z3,z4,z5,z6,z7,z8,z9,z10,z11,z12,hqs⟩:=hr9.shape
    subst hqs
    have hal:=below_al (o:=.cells (ecl hz ⟨.slice z1 z2 z3,.slice z4 z5 z6,.slice z7 z8 z9,.slice z10 z11 z12⟩) 33) (Below.refl w9.heap.size w9)
    have Z9:=hide (ex_at w9 hz ⟨.slice z1 z2 z3,.slice z4 z5 z6,.slice z7 z8 z9,.slice z10 z11 z12⟩)
    have R9:=hide (hr9.below hal)
    have B9:=hide (below_then (below_then B8.out hb9) hal)
    have pr9:=hide (prz.out _ _ B9.out R9.out)
    have sr9:=hide (srz.out _ _ B9.out R9.out)
    have c9:=Z9.out.cells
    clear hb9 B8 hal pz prz srz hr9
    simp only [ecl] at Z9 R9 B9 pr9 sr9
    dsimp only [ecl] at c9 ⊢
    go_wp2_with (go_at_call 15;refine Sto.out ?_)
    refine Sto.mk ?_
    refine pr9.out.mono ?_
    rintro e w10 ⟨rfl,hb10⟩
    have Z10:=hide (Z9.out.below hb10)
    have B10:=hide (below_then B9.out hb10)
    have sr10:=hide (sr9.out _ hb10)
    clear pr9 c9 sr9 R9 Z9 B9
    rcases hj with rfl|rfl
    ·clear hb10
     go_wp2_with (go_at_call 9;refine Sto.out ?_)
     refine Sto.mk ?_
     refine sr10.out.mono ?_
     rintro e w11 ⟨ha,qa,ka,kb,rfl,hsa,hb11,hs11⟩
     have hs12:=hs11 (by first|rfl|trivial)
     clear hs11
     obtain ⟨rfl,hs11⟩:=hs12
     obtain ⟨a1,a2,a3,a4,a5,a6,a7,a8,a9,a10,a11,a12,hqs⟩:=hsa
     subst hqs
     have hal:=below_al (o:=.cells (ecl ha ⟨.slice a1 a2 a3,.slice a4 a5 a6,.slice a7 a8 a9,.slice a10 a11 a12⟩) 33) (Below.refl w11.heap.size w11)
     have A11:=hide (ex_at w11 ha ⟨.slice a1 a2 a3,.slice a4 a5 a6,.slice a7 a8 a9,.slice a10 a11 a12⟩)
     have Z11:=hide ((Z10.out.below hb11).below hal)
     have B11:=hide (below_then (below_then B10.out hb11) hal)
     have S11:=hide (fun W2 (hb:Below (w11.alloc (.cells (ecl ha ⟨.slice a1 a2 a3,.slice a4 a5 a6,.slice a7 a8 a9,.slice a10 a11 a12⟩) 33)).heap.size (w11.alloc (.cells (ecl ha ⟨.slice a1 a2 a3,.slice a4 a5 a6,.slice a7 a8 a9,.slice a10 a11 a12⟩) 33)) W2)=>(hs11 W2 (below_then hal hb)).2)
     clear hb11 hs11 hal sr10 Z10 B10
     simp only [ecl] at A11 Z11 B11 S11
     dsimp only [ecl]
     go_wp2_with (go_at_call 11;refine Sto.out ?_)
     refine Sto.mk ?_
     refine (aw.out _ B11.out).mono ?_
     rintro e w12 ⟨rfl,hb12⟩
     have B12:=hide (below_then B11.out hb12)
     have a12:=(A11.out.below hb12).cells
     have z12:=(Z11.out.below hb12).cells
     have S12:=hide (S11.out _ hb12)
     clear hb12 B11 aw A11 Z11 S11
     dsimp only at a12 z12
     go_wp2_with (go_at_call 12;refine Sto.out ?_)
     refine Sto.mk ?_
     refine S12.out.mono ?_
     rintro e w13 ⟨rfl,hb13⟩
     have B13:=hide (below_then B12.out hb13)
     clear hb13 B12 a12 z12 S12
     go_wp2_with fail
     go_ret
     exact ⟨rfl,B13.out⟩
    ·clear hb10 sr10 Z10
     go_wp2_with (go_at_call 11;refine Sto.out ?_)
     refine Sto.mk ?_
     refine (aw.out _ B10.out).mono ?_
     rintro e w12 ⟨rfl,hb12⟩
     have B12:=hide (below_then B10.out hb12)
     clear hb12 B10 aw
     go_wp2_with fail
     go_ret
     exact ⟨rfl,B12.out⟩
 ·have h1:(ee==0)=false:=by simp [h0]
  have K5:=hide K4.out
  clear K4 c4 d4 Y4 S4 f4 h0
  have c5:=K5.out.ct
  dsimp only at c5
  go_wp2_with (go_at_call 22;refine Sto.out ?_)
  refine Sto.mk ?_
  refine (pt2.out _ K5.out.bel).mono ?_
  rintro e w6 ⟨rfl,hb6⟩
  have K6:=hide (K5.out.below hb6)
  clear hb6 K5 c5 pt2
  go_wp2_with (go_at_call 20;refine Sto.out ?_)
  refine Sto.mk ?_
  refine (st.out _ K6.out.bel).mono ?_
  rintro e w7 ⟨hu,qu,kh,kq,rfl,hsu,hb7,hs7⟩
  obtain ⟨u1,u2,u3,u4,u5,u6,hqs⟩:=hsu
  subst hqs
  have hal:=below_al (o:=.cells (tcl hu ⟨.slice u1 u2 u3,.slice u4 u5 u6⟩) 48) (Below.refl w7.heap.size w7)
  have Y7:=hide (ty_new w7 hu ⟨.slice u1 u2 u3,.slice u4 u5 u6⟩)
  have K7:=hide ((K6.out.below hb7).below hal)
  have S7:=hide (fun (h:eg=0) W2 (hb:Below (w7.alloc (.cells (tcl hu ⟨.slice u1 u2 u3,.slice u4 u5 u6⟩) 48)).heap.size (w7.alloc (.cells (tcl hu ⟨.slice u1 u2 u3,.slice u4 u5 u6⟩) 48)) W2)=>(hs7 h).2 W2 (below_then hal hb))
  have f7:Hid (eg=0→kh=0):=fun h=>(hs7 h).1
  have c7:=K7.out.ct
  have d7:=Y7.out.cells
  clear hb7 hs7 hal st K6
  simp only [tcl,tvs] at K7 S7 Y7
  dsimp only [tcl,tvs] at c7 d7 ⊢
  by_cases g0:eg=0
  ·have k0:=f7.out g0
   subst k0
   have g1:(eg==0)=true:=by simp [g0]
   go_wp2_with (go_at_call 24;refine Sto.out ?_)
   refine Sto.mk ?_
   refine (S7.out g0 _ (Below.refl _ _)).mono ?_
   rintro e w8 ⟨rfl,hb8⟩
   have K8:=hide (K7.out.below hb8)
   clear hb8 K7 c7 d7 Y7 S7 f7 g0 g1
   have B8:=hide K8.out.bel
   clear K8
   cases hpz:paR dq (gk + 20) (bl s) with
   | inl y =>
    have pz:=hide (fun W (hb:Below w.heap.size w W)=>parse_no (dq:=dq) hPh.out hf (G.out.below hb) (s:=s) (by omega) hpz)
    have hy0:=pa_err hpz
    obtain ⟨ya,yb⟩:=y
    dsimp only at pz hy0
    have hy1:(ya==0)=false:=by simp [hy0]
    simp only [ze,zs,ecl,lf,vz,vH,vhd,nilB] at pz
    clear hy0 hpz hf
    go_wp2_with (go_at_call 9;refine Sto.out ?_)
    refine Sto.mk ?_
    refine (pz.out _ B8.out).mono ?_
    rintro e w9 ⟨rfl,hb9⟩
    have B9:=hide (below_al (o:=.cells #[.int .i64 0,.string ⟨#[]⟩,.slice none 0 0,.slice none 0 0,.int .i64 0,.bool false,.bool false,.string ⟨#[]⟩,.int .i64 0,.int .u64 0,.string ⟨#[]⟩,.slice none 0 0,.slice none 0 0] 33) (below_then B8.out hb9))
    clear hb9 B8 pz
    go_wp2_with (go_at_call 11;refine Sto.out ?_)
    refine Sto.mk ?_
    refine (aw.out _ B9.out).mono ?_
    rintro e w10 ⟨rfl,hb10⟩
    have B10:=hide (below_then B9.out hb10)
    clear hb10 B9 aw
    go_wp2_with fail
    go_ret
    exact ⟨rfl,B10.out⟩
   | inr z =>
    have pz:=hide (fun W (hb:Below w.heap.size w W)=>parse_ok (dq:=dq) hPh.out hf (G.out.below hb) (s:=s) (by omega) hpz)
    have hzl:=(rd_in hpz).2
    have hzb:=pa_bound hpz
    have prz:=hide (fun q W (hb:Below w.heap.size w W) (h:RE _ W z q)=>print_is (dq:=dq) hPh.out _ z q W h hzb.1 (by have:=hzb.2;omega) (G.out.below hb).gs)
    have srz:=hide (fun q W0 (hb0:Below w.heap.size w W0) (h:RE _ W0 z q) W (hb:Below W0.heap.size W0 W)=>par_same (dq:=dq) hPh.out hf (G.out.below hb0) h W hb)
    have hj:=prX_two hzl
    obtain ⟨hz,hhz⟩:∃ h,ehd _ z=h:=⟨_,rfl⟩
    obtain ⟨Z,hZ⟩:∃ Z,mkB (prX dq _ z).2=Z:=⟨_,rfl⟩
    obtain ⟨j,hjj⟩:∃ e,(prX dq _ z).1=e:=⟨_,rfl⟩
    rw [hhz] at pz prz srz
    rw [hZ] at prz srz
    rw [hjj] at prz srz hj
    clear hhz hZ hjj hzl hzb hpz hf
    go_wp2_with (go_at_call 9;refine Sto.out ?_)
    refine Sto.mk ?_
    refine (pz.out _ B8.out).mono ?_
    rintro e w9 ⟨qz,rfl,hr9,hb9⟩
    obtain ⟨z1,z2,z3,z4,z5,z6,z7,z8,z9,z10,z11,z12,hqs⟩:=hr9.shape
    subst hqs
    have hal:=below_al (o:=.cells (ecl hz ⟨.slice z1 z2 z3,.slice z4 z5 z6,.slice z7 z8 z9,.slice z10 z11 z12⟩) 33) (Below.refl w9.heap.size w9)
    have Z9:=hide (ex_at w9 hz ⟨.slice z1 z2 z3,.slice z4 z5 z6,.slice z7 z8 z9,.slice z10 z11 z12⟩)
    have R9:=hide (hr9.below hal)
    have B9:=hide (below_then (below_then B8.out hb9) hal)
    have pr9:=hide (prz.out _ _ B9.out R9.out)
    have sr9:=hide (srz.out _ _ B9.out R9.out)
    have c9:=Z9.out.cells
    clear hb9 B8 hal pz prz srz hr9
    simp only [ecl] at Z9 R9 B9 pr9 sr9
    dsimp only [ecl] at c9 ⊢
    go_wp2_with (go_at_call 15;refine Sto.out ?_)
    refine Sto.mk ?_
    refine pr9.out.mono ?_
    rintro e w10 ⟨rfl,hb10⟩
    have Z10:=hide (Z9.out.below hb10)
    have B10:=hide (below_then B9.out hb10)
    have sr10:=hide (sr9.out _ hb10)
    clear pr9 c9 sr9 R9 Z9 B9
    rcases hj with rfl|rfl
    ·clear hb10
     go_wp2_with (go_at_call 9;refine Sto.out ?_)
     refine Sto.mk ?_
     refine sr10.out.mono ?_
     rintro e w11 ⟨ha,qa,ka,kb,rfl,hsa,hb11,hs11⟩
     have hs12:=hs11 (by first|rfl|trivial)
     clear hs11
     obtain ⟨rfl,hs11⟩:=hs12
     obtain ⟨a1,a2,a3,a4,a5,a6,a7,a8,a9,a10,a11,a12,hqs⟩:=hsa
     subst hqs
     have hal:=below_al (o:=.cells (ecl ha ⟨.slice a1 a2 a3,.slice a4 a5 a6,.slice a7 a8 a9,.slice a10 a11 a12⟩) 33) (Below.refl w11.heap.size w11)
     have A11:=hide (ex_at w11 ha ⟨.slice a1 a2 a3,.slice a4 a5 a6,.slice a7 a8 a9,.slice a10 a11 a12⟩)
     have Z11:=hide ((Z10.out.below hb11).below hal)
     have B11:=hide (below_then (below_then B10.out hb11) hal)
     have S11:=hide (fun W2 (hb:Below (w11.alloc (.cells (ecl ha ⟨.slice a1 a2 a3,.slice a4 a5 a6,.slice a7 a8 a9,.slice a10 a11 a12⟩) 33)).heap.size (w11.alloc (.cells (ecl ha ⟨.slice a1 a2 a3,.slice a4 a5 a6,.slice a7 a8 a9,.slice a10 a11 a12⟩) 33)) W2)=>(hs11 W2 (below_then hal hb)).2)
     clear hb11 hs11 hal sr10 Z10 B10
     simp only [ecl] at A11 Z11 B11 S11
     dsimp only [ecl]
     go_wp2_with (go_at_call 11;refine Sto.out ?_)
     refine Sto.mk ?_
     refine (aw.out _ B11.out).mono ?_
     rintro e w12 ⟨rfl,hb12⟩
     have B12:=hide (below_then B11.out hb12)
     have a12:=(A11.out.below hb12).cells
     have z12:=(Z11.out.below hb12).cells
     have S12:=hide (S11.out _ hb12)
     clear hb12 B11 aw A11 Z11 S11
     dsimp only at a12 z12
     go_wp2_with (go_at_call 12;refine Sto.out ?_)
     refine Sto.mk ?_
     refine S12.out.mono ?_
     rintro e w13 ⟨rfl,hb13⟩
     have B13:=hide (below_then B12.out hb13)
     clear hb13 B12 a12 z12 S12
     go_wp2_with fail
     go_ret
     exact ⟨rfl,B13.out⟩
    ·clear hb10 sr10 Z10
     go_wp2_with (go_at_call 11;refine Sto.out ?_)
     refine Sto.mk ?_
     refine (aw.out _ B10.out).mono ?_
     rintro e w12 ⟨rfl,hb12⟩
     have B12:=hide (below_then B10.out hb12)
     clear hb12 B10 aw
     go_wp2_with fail
     go_ret
     exact ⟨rfl,B12.out⟩
  ·have g1:(eg==0)=false:=by simp [g0]
   have K8:=hide K7.out
   clear K7 c7 d7 Y7 S7 f7 g0
   have B8:=hide K8.out.bel
   clear K8
   cases hpz:paR dq (gk + 20) (bl s) with
   | inl y =>
    have pz:=hide (fun W (hb:Below w.heap.size w W)=>parse_no (dq:=dq) hPh.out hf (G.out.below hb) (s:=s) (by omega) hpz)
    have hy0:=pa_err hpz
    obtain ⟨ya,yb⟩:=y
    dsimp only at pz hy0
    have hy1:(ya==0)=false:=by simp [hy0]
    simp only [ze,zs,ecl,lf,vz,vH,vhd,nilB] at pz
    clear hy0 hpz hf
    go_wp2_with (go_at_call 9;refine Sto.out ?_)
    refine Sto.mk ?_
    refine (pz.out _ B8.out).mono ?_
    rintro e w9 ⟨rfl,hb9⟩
    have B9:=hide (below_al (o:=.cells #[.int .i64 0,.string ⟨#[]⟩,.slice none 0 0,.slice none 0 0,.int .i64 0,.bool false,.bool false,.string ⟨#[]⟩,.int .i64 0,.int .u64 0,.string ⟨#[]⟩,.slice none 0 0,.slice none 0 0] 33) (below_then B8.out hb9))
    clear hb9 B8 pz
    go_wp2_with (go_at_call 11;refine Sto.out ?_)
    refine Sto.mk ?_
    refine (aw.out _ B9.out).mono ?_
    rintro e w10 ⟨rfl,hb10⟩
    have B10:=hide (below_then B9.out hb10)
    clear hb10 B9 aw
    go_wp2_with fail
    go_ret
    exact ⟨rfl,B10.out⟩
   | inr z =>
    have pz:=hide (fun W (hb:Below w.heap.size w W)=>parse_ok (dq:=dq) hPh.out hf (G.out.below hb) (s:=s) (by omega) hpz)
    have hzl:=(rd_in hpz).2
    have hzb:=pa_bound hpz
    have prz:=hide (fun q W (hb:Below w.heap.size w W) (h:RE _ W z q)=>print_is (dq:=dq) hPh.out _ z q W h hzb.1 (by have:=hzb.2;omega) (G.out.below hb).gs)
    have srz:=hide (fun q W0 (hb0:Below w.heap.size w W0) (h:RE _ W0 z q) W (hb:Below W0.heap.size W0 W)=>par_same (dq:=dq) hPh.out hf (G.out.below hb0) h W hb)
    have hj:=prX_two hzl
    obtain ⟨hz,hhz⟩:∃ h,ehd _ z=h:=⟨_,rfl⟩
    obtain ⟨Z,hZ⟩:∃ Z,mkB (prX dq _ z).2=Z:=⟨_,rfl⟩
    obtain ⟨j,hjj⟩:∃ e,(prX dq _ z).1=e:=⟨_,rfl⟩
    rw [hhz] at pz prz srz
    rw [hZ] at prz srz
    rw [hjj] at prz srz hj
    clear hhz hZ hjj hzl hzb hpz hf
    go_wp2_with (go_at_call 9;refine Sto.out ?_)
    refine Sto.mk ?_
    refine (pz.out _ B8.out).mono ?_
    rintro e w9 ⟨qz,rfl,hr9,hb9⟩
    obtain ⟨z1,z2,z3,z4,z5,z6,z7,z8,z9,z10,z11,z12,hqs⟩:=hr9.shape
    subst hqs
    have hal:=below_al (o:=.cells (ecl hz ⟨.slice z1 z2 z3,.slice z4 z5 z6,.slice z7 z8 z9,.slice z10 z11 z12⟩) 33) (Below.refl w9.heap.size w9)
    have Z9:=hide (ex_at w9 hz ⟨.slice z1 z2 z3,.slice z4 z5 z6,.slice z7 z8 z9,.slice z10 z11 z12⟩)
    have R9:=hide (hr9.below hal)
    have B9:=hide (below_then (below_then B8.out hb9) hal)
    have pr9:=hide (prz.out _ _ B9.out R9.out)
    have sr9:=hide (srz.out _ _ B9.out R9.out)
    have c9:=Z9.out.cells
    clear hb9 B8 hal pz prz srz hr9
    simp only [ecl] at Z9 R9 B9 pr9 sr9
    dsimp only [ecl] at c9 ⊢
    go_wp2_with (go_at_call 15;refine Sto.out ?_)
    refine Sto.mk ?_
    refine pr9.out.mono ?_
    rintro e w10 ⟨rfl,hb10⟩
    have Z10:=hide (Z9.out.below hb10)
    have B10:=hide (below_then B9.out hb10)
    have sr10:=hide (sr9.out _ hb10)
    clear pr9 c9 sr9 R9 Z9 B9
    rcases hj with rfl|rfl
    ·clear hb10
     go_wp2_with (go_at_call 9;refine Sto.out ?_)
     refine Sto.mk ?_
     refine sr10.out.mono ?_
     rintro e w11 ⟨ha,qa,ka,kb,rfl,hsa,hb11,hs11⟩
     have hs12:=hs11 (by first|rfl|trivial)
     clear hs11
     obtain ⟨rfl,hs11⟩:=hs12
     obtain ⟨a1,a2,a3,a4,a5,a6,a7,a8,a9,a10,a11,a12,hqs⟩:=hsa
     subst hqs
     have hal:=below_al (o:=.cells (ecl ha ⟨.slice a1 a2 a3,.slice a4 a5 a6,.slice a7 a8 a9,.slice a10 a11 a12⟩) 33) (Below.refl w11.heap.size w11)
     have A11:=hide (ex_at w11 ha ⟨.slice a1 a2 a3,.slice a4 a5 a6,.slice a7 a8 a9,.slice a10 a11 a12⟩)
     have Z11:=hide ((Z10.out.below hb11).below hal)
     have B11:=hide (below_then (below_then B10.out hb11) hal)
     have S11:=hide (fun W2 (hb:Below (w11.alloc (.cells (ecl ha ⟨.slice a1 a2 a3,.slice a4 a5 a6,.slice a7 a8 a9,.slice a10 a11 a12⟩) 33)).heap.size (w11.alloc (.cells (ecl ha ⟨.slice a1 a2 a3,.slice a4 a5 a6,.slice a7 a8 a9,.slice a10 a11 a12⟩) 33)) W2)=>(hs11 W2 (below_then hal hb)).2)
     clear hb11 hs11 hal sr10 Z10 B10
     simp only [ecl] at A11 Z11 B11 S11
     dsimp only [ecl]
     go_wp2_with (go_at_call 11;refine Sto.out ?_)
     refine Sto.mk ?_
     refine (aw.out _ B11.out).mono ?_
     rintro e w12 ⟨rfl,hb12⟩
     have B12:=hide (below_then B11.out hb12)
     have a12:=(A11.out.below hb12).cells
     have z12:=(Z11.out.below hb12).cells
     have S12:=hide (S11.out _ hb12)
     clear hb12 B11 aw A11 Z11 S11
     dsimp only at a12 z12
     go_wp2_with (go_at_call 12;refine Sto.out ?_)
     refine Sto.mk ?_
     refine S12.out.mono ?_
     rintro e w13 ⟨rfl,hb13⟩
     have B13:=hide (below_then B12.out hb13)
     clear hb13 B12 a12 z12 S12
     go_wp2_with fail
     go_ret
     exact ⟨rfl,B13.out⟩
    ·clear hb10 sr10 Z10
     go_wp2_with (go_at_call 11;refine Sto.out ?_)
     refine Sto.mk ?_
     refine (aw.out _ B10.out).mono ?_
     rintro e w12 ⟨rfl,hb12⟩
     have B12:=hide (below_then B10.out hb12)
     clear hb12 B10 aw
     go_wp2_with fail
     go_ret
     exact ⟨rfl,B12.out⟩
end Lx
end Go.Proofs.YtcnfchblfcfimaaGreatDoor
namespace Go.Proofs.YtcnfchblfcfimaaGreatDoor
namespace Lx
open Go.RowKit
theorem lround_any (hP:ParseOk) (n:Nat) (x:ET n) (qx:Sl) (m:Nat) (t:TT m) (qt:S2) (s:ByteArray) (w:World) (g:Gw w) (rx:RE n w x qx) (zx:ESz n x) (rt:RTq m w t qt) (zt:TSz m t) {p:Prop} (_:p) :
  Calls Tryz.prog 6 #[.agg (ecl (ehd n x) qx),.agg (tcl (thd m t) qt),.string s] w fun e w'=>e=.returned (.bool true)∧Below w.heap.size w w':=round_law hP 1005 (Nat.le_refl _) n x qx m t qt s w g rx zx rt zt
end Lx
end Go.Proofs.YtcnfchblfcfimaaGreatDoor
