/- Merged by program: BgApart. -/
import Derived.Test.YthodiandebahdaaGreatDoorZy31
import Derived.Test.YthodiandebahdaaGreatDoorZy22
namespace Go.Proofs.YthodiandebahdaaGreatDoor
open Go.RowKit
set_option linter.unusedSimpArgs false
set_option linter.unusedVariables false
set_option maxHeartbeats 8000000
structure Ap (w:World) (h g:Hd) (na la nb lb:Value) (W:World):Prop where
 below:Below w.heap.size w W
 ba:Bx W w.heap.size h na la
 bb:Bx W (w.heap.size + 1) g nb lb
theorem Ap.then {w:World} {h g:Hd} {na la nb lb:Value} {W W1:World} (k:Ap w h g na la nb lb W) (hb:Below W.heap.size W W1):Ap w h g na la nb lb W1:=⟨below_then k.below hb,k.ba.below hb,k.bb.below hb⟩
theorem ap_new (w:World) (h g:Hd) (na la nb lb:Value):Ap w h g na la nb lb ((w.alloc (.cells (vals h na la) 29)).alloc (.cells (vals g nb lb) 29)):=by
 refine ⟨below_al (below_al (Below.refl _ _)),(bx_new w h na la).below (below_al (Below.refl _ _)),?_⟩
 have:=bx_new (w.alloc (.cells (vals h na la) 29)) g nb lb
 rw [show (w.alloc (.cells (vals h na la) 29)).heap.size=w.heap.size + 1 from by show (w.heap.push _).size=_;simp] at this
 exact this
structure Av (w:World) (h g:Hd) (na la nb lb va vb:Value) (J K:List UInt8) (W:World):Prop where
 ap:Ap w h g na la nb lb W
 o1:Own W w.heap.size va J
 o2:Own W w.heap.size vb K
theorem Av.then {w:World} {h g:Hd} {na la nb lb va vb:Value} {J K:List UInt8} {W W1:World} (k:Av w h g na la nb lb va vb J K W) (hb:Below W.heap.size W W1):Av w h g na la nb lb va vb J K W1 :=
 ⟨k.ap.then hb,own_of k.o1 fun i _ hlt=>hb.block i hlt,own_of k.o2 fun i _ hlt=>hb.block i hlt⟩
theorem Av.drew {w:World} {h g:Hd} {na la nb lb va vb:Value} {J K:List UInt8} {W:World} {n:Nat} (k:Av w h g na la nb lb va vb J K W):Av w h g na la nb lb va vb J K (W.drewN n) :=
 k.then ⟨rfl,rfl,rfl,Nat.le_refl _,fun _ _=>rfl⟩
theorem Av.dr {w:World} {h g:Hd} {na la nb lb va vb:Value} {J K:List UInt8} {W:World} (k:Av w h g na la nb lb va vb J K W):Av w h g na la nb lb va vb J K W.drew :=
 k.then ⟨rfl,rfl,rfl,Nat.le_refl _,fun _ _=>rfl⟩
theorem Av.al {w:World} {h g:Hd} {na la nb lb va vb:Value} {J K:List UInt8} {W:World} {o:Obj} (k:Av w h g na la nb lb va vb J K W):Av w h g na la nb lb va vb J K (W.alloc o):=k.then (below_al (Below.refl _ _))
def Jx (n:Nat) (x:VT n) (w:World) (e:Ending) (w':World):Prop :=
 Below w.heap.size w w'∧∃ a m c C,e=.returned (.tuple #[.slice a m c,.int .i64 C])∧(C=0→Chk n x 0∧(xtx n x).length≤65536∧Own w' w.heap.size (.slice a m c) (xtx n x))∧(C≠0→(C≠40∨¬ IsV n x)∧(Chk n x 0→65536<(xtx n x).length))
theorem jx_any (n:Nat) (x:VT n) (ns ls:Value) (w:World) (hr:Rdy n w x ns ls) (hg:Rg n x) (g:Ut.Gu w) (ht:Tab w.heap.size w) (gz:Gz w) :
  Calls Tryz.prog 10 #[.agg (vals (vhd n x) ns ls)] w fun e w'=>Jx n x w e w':=by
 obtain ⟨E,hE⟩:=chk_ex n x
 refine (xwrite_any n x ns ls w hr hg g ht gz E hE).mono ?_
 rintro e w' ⟨hb,h1,h2⟩
 refine ⟨hb,?_⟩
 by_cases h0:E=0
 ·subst h0
  by_cases hl:(xtx n x).length≤65536
  ·obtain ⟨a,m,c,rfl,ho⟩:=(h2 rfl).1 hl
   exact ⟨a,m,c,0,rfl,fun _=>⟨hE,hl,ho⟩,fun q=>absurd rfl q⟩
  ·have:=(h2 rfl).2 (by omega)
   exact ⟨none,0,0,2,this,fun q=>absurd q (by decide),fun _=>⟨Or.inl (by decide),fun _=>by omega⟩⟩
 ·refine ⟨none,0,0,E,h1 h0,fun q=>absurd q h0,fun _=>⟨?_,fun q=>?_⟩⟩
  ·rcases hE with ⟨_,q⟩|⟨q,_⟩|⟨q,_⟩
   ·exact Or.inr q
   ·exact Or.inl (by rw [q];decide)
   ·exact absurd q h0
  ·have a:=(chk_zero q).1 rfl
   exact absurd ((chk_zero hE).2 a) h0
def AwOk (w:World):Prop:=∀ W,Below w.heap.size w W→Calls Tryz.prog 12 #[] W fun e w'=>e=.returned (.bool true)∧Below W.heap.size W w'
set_option maxRecDepth 100000 in
theorem apart_law (n:Nat) (x y:VT n) (ns ls ns' ls':Value) (w:World) (hx:RD n w x ns ls) (zx:Sz n x) (rx:Rg n x) (hy:RD n w y ns' ls') (zy:Sz n y) (ry:Rg n y) (g:Ut.Gu w) (ht:Tab w.heap.size w) (gz:Gz w) (aw:AwOk w)
  (ap:Chk n x 0→Chk n y 0→(xtx n x).length≤65536→xtx n x=xtx n y→x=y) :
  Calls Tryz.prog 7 #[.agg (vals (vhd n x) ns ls),.agg (vals (vhd n y) ns' ls')] w fun e w'=>e=.returned (.bool true)∧Below w.heap.size w w':=by
 obtain ⟨a1,a2,a3,a4,a5,a6,rfl,rfl⟩:=hx.shape
 obtain ⟨b1,b2,b3,b4,b5,b6,rfl,rfl⟩:=hy.shape
 obtain ⟨hp,hhp⟩:∃ h,vhd n x=h:=⟨_,rfl⟩
 obtain ⟨hq,hhq⟩:∃ h,vhd n y=h:=⟨_,rfl⟩
 have gx:=hide (fun W (hb:Below w.heap.size w W)=>Go.Proofs.YthodiandebahdaaGreatDoor.big_any n x _ _ W (hx.below hb) zx)
 have gy:=hide (fun W (hb:Below w.heap.size w W)=>Go.Proofs.YthodiandebahdaaGreatDoor.big_any n y _ _ W (hy.below hb) zy)
 have T0:=hide (ap_new w hp hq (.slice a1 a2 a3) (.slice a4 a5 a6) (.slice b1 b2 b3) (.slice b4 b5 b6))
 replace hx:=hide hx
 replace zx:=hide zx
 replace rx:=hide rx
 replace hy:=hide hy
 replace zy:=hide zy
 replace ry:=hide ry
 replace g:=hide g
 replace ht:=hide ht
 replace gz:=hide gz
 replace aw:=hide aw
 replace ap:=hide ap
 rw [hhp] at gx ⊢
 rw [hhq] at gy ⊢
 replace hhp:=hide hhp
 replace hhq:=hide hhq
 show Calls _ _ #[.agg #[.int .i64 hp.kind,.bool hp.flag,.bool hp.neg,.string hp.dig,.int .i64 hp.exp,.int .u64 hp.bits,.string hp.text,.slice a1 a2 a3,.slice a4 a5 a6],.agg #[.int .i64 hq.kind,.bool hq.flag,.bool hq.neg,.string hq.dig,.int .i64 hq.exp,.int .u64 hq.bits,.string hq.text,.slice b1 b2 b3,.slice b4 b5 b6]] _ _
 go_enter Tryz.func7, Tryz.ntmps7
 go_wp2_with fail
 refine (gx.out _ T0.out.below).mono ?_
 rintro e w1 ⟨bb,rfl,sx,hb1⟩
 have T1:=hide (T0.out.then hb1)
 clear T0 hb1
 cases bb
 ·obtain ⟨p0,p1,p2,p3,p4,p5,p6,p7,p8⟩:=T1.out.bb.cells
  go_wp2_with fail
  refine (gy.out _ T1.out.below).mono ?_
  rintro e w2 ⟨bb,rfl,sy,hb2⟩
  have T2:=hide (T1.out.then hb2)
  clear T1 hb2 p0 p1 p2 p3 p4 p5 p6 p7 p8
  cases bb
  ·replace sx:=hide (sx.out (by simp))
   replace sy:=hide (sy.out (by simp))
   have bx:siz n x≤65536:=Nat.le_trans (siz_blk n x) sx.out.1
   have by':siz n y≤65536:=Nat.le_trans (siz_blk n y) sy.out.1
   have Rx:Hid (∀ W,Below w.heap.size w W→Rdy n W x _ _):=fun W hb=>⟨hx.out.below hb,zx.out,by omega⟩
   have Ry:Hid (∀ W,Below w.heap.size w W→Rdy n W y _ _):=fun W hb=>⟨hy.out.below hb,zy.out,by omega⟩
   have tb:Hid (∀ W,Below w.heap.size w W→Tab W.heap.size W):=fun W hb=>Tab.up (ht.out.on hb) hb.size
   obtain ⟨q,hq'⟩:=tells (x=y)
   have c1:=hide (fun W (hb:Below w.heap.size w W)=>jx_any n x _ _ W (Rx.out W hb) rx.out (g.out.below hb) (tb.out W hb) (gz.out.low hb gz.out.low8))
   have c2:=hide (fun W (hb:Below w.heap.size w W)=>jx_any n y _ _ W (Ry.out W hb) ry.out (g.out.below hb) (tb.out W hb) (gz.out.low hb gz.out.low8))
   have kr0:=hide (fun W (hb:Below w.heap.size w W)=>Calls.tb (requal_any n x y _ _ _ _ W (Rx.out W hb).rd (Ry.out W hb).rd) hq')
   rw [hhp.out] at c1 kr0
   rw [hhq.out] at c2 kr0
   have kr:Hid (∀ W,Below w.heap.size w W→Calls Tryz.prog 13 #[.agg #[.int .i64 hp.kind,.bool hp.flag,.bool hp.neg,.string hp.dig,.int .i64 hp.exp,.int .u64 hp.bits,.string hp.text,.slice a1 a2 a3,.slice a4 a5 a6],.agg #[.int .i64 hq.kind,.bool hq.flag,.bool hq.neg,.string hq.dig,.int .i64 hq.exp,.int .u64 hq.bits,.string hq.text,.slice b1 b2 b3,.slice b4 b5 b6]] W fun e w'=>e=.returned (.bool q)∧Below W.heap.size W w'):=fun W hb=>kr0.out W hb
   have hqx:Hid (q=true↔x=y):=hq'
   clear hq' bx by' hx hy zx zy sx sy Rx Ry gx gy kr0
   obtain ⟨p0,p1,p2,p3,p4,p5,p6,p7,p8⟩:=T2.out.ba.cells
   obtain ⟨q0,q1,q2,q3,q4,q5,q6,q7,q8⟩:=T2.out.bb.cells
   go_wp2_with fail
   refine (c1.out _ T2.out.below).mono ?_
   rintro e w3 ⟨hb3,ra,rm,rc,C1,rfl,o1,_⟩
   have T3:=hide (T2.out.then hb3)
   have T2z:=hide T2.out.below.size
   have O1:=hide o1
   have B3:=hide hb3
   clear T2 hb3 o1 c1 p0 p1 p2 p3 p4 p5 p6 p7 p8 q0 q1 q2 q3 q4 q5 q6 q7 q8
   obtain ⟨p0,p1,p2,p3,p4,p5,p6,p7,p8⟩:=T3.out.ba.cells
   obtain ⟨q0,q1,q2,q3,q4,q5,q6,q7,q8⟩:=T3.out.bb.cells
   go_wp2_with fail
   refine (c2.out _ T3.out.below).mono ?_
   rintro e w4 ⟨hb4,sa,sm,sc,C2,rfl,o2,_⟩
   have T4:=hide (T3.out.then hb4)
   have T3z:=hide T3.out.below.size
   have O2:=hide o2
   have B4:=hide hb4
   clear T3 hb4 o2 c2 p0 p1 p2 p3 p4 p5 p6 p7 p8 q0 q1 q2 q3 q4 q5 q6 q7 q8
   by_cases e1:C1=0
   ·subst e1
    by_cases e2:C2=0
    ·subst e2
     obtain ⟨k1,l1,u1⟩:=O1.out rfl
     obtain ⟨k2,l2,u2⟩:=O2.out rfl
     have hAB:Hid ((xtx n x=xtx n y)↔x=y):=⟨fun e=>ap.out k1 k2 l1 e,fun e=>by rw [e]⟩
     have V4:Hid (Av w hp hq (.slice a1 a2 a3) (.slice a4 a5 a6) (.slice b1 b2 b3) (.slice b4 b5 b6) (.slice ra rm rc) (.slice sa sm sc) (xtx n x) (xtx n y) w4):=⟨T4.out,ownsRow_low (own_of u1 fun k _ hlt=>B4.out.block k hlt) T2z.out,ownsRow_low u2 T3z.out⟩
     have hAw:Hid (∀ W,Below w.heap.size w W→Calls Tryz.prog 12 #[] W fun e w'=>e=.returned (.bool true)∧Below W.heap.size W w'):=aw.out
     have LB:Hid (∀ W,Av w hp hq (.slice a1 a2 a3) (.slice a4 a5 a6) (.slice b1 b2 b3) (.slice b4 b5 b6) (.slice ra rm rc) (.slice sa sm sc) (xtx n x) (xtx n y) W→Below w.heap.size w W):=fun W q=>q.ap.below
     obtain ⟨A,hA⟩:∃ A,mkB (xtx n x)=A:=⟨_,rfl⟩
     obtain ⟨B,hB⟩:∃ B,mkB (xtx n y)=B:=⟨_,rfl⟩
     have mkS:Hid (∀ w',Av w hp hq (.slice a1 a2 a3) (.slice a4 a5 a6) (.slice b1 b2 b3) (.slice b4 b5 b6) (.slice ra rm rc) (.slice sa sm sc) (xtx n x) (xtx n y) w'→w'.cell? ⟨w.heap.size,0,none⟩=some (.int .i64 hp.kind)∧w'.cell? ⟨w.heap.size,1,none⟩=some (.bool hp.flag)∧w'.cell? ⟨w.heap.size,2,none⟩=some (.bool hp.neg)∧w'.cell? ⟨w.heap.size,3,none⟩=some (.string hp.dig)∧w'.cell? ⟨w.heap.size,4,none⟩=some (.int .i64 hp.exp)∧w'.cell? ⟨w.heap.size,5,none⟩=some (.int .u64 hp.bits)∧w'.cell? ⟨w.heap.size,6,none⟩=some (.string hp.text)∧w'.cell? ⟨w.heap.size,7,none⟩=some (.slice a1 a2 a3)∧w'.cell? ⟨w.heap.size,8,none⟩=some (.slice a4 a5 a6)∧w'.cell? ⟨w.heap.size + 1,0,none⟩=some (.int .i64 hq.kind)∧w'.cell? ⟨w.heap.size + 1,1,none⟩=some (.bool hq.flag)∧w'.cell? ⟨w.heap.size + 1,2,none⟩=some (.bool hq.neg)∧w'.cell? ⟨w.heap.size + 1,3,none⟩=some (.string hq.dig)∧w'.cell? ⟨w.heap.size + 1,4,none⟩=some (.int .i64 hq.exp)∧w'.cell? ⟨w.heap.size + 1,5,none⟩=some (.int .u64 hq.bits)∧w'.cell? ⟨w.heap.size + 1,6,none⟩=some (.string hq.text)∧w'.cell? ⟨w.heap.size + 1,7,none⟩=some (.slice b1 b2 b3)∧w'.cell? ⟨w.heap.size + 1,8,none⟩=some (.slice b4 b5 b6)∧(convert 32 9 (.slice ra rm rc)).run Tryz.prog w'=.ok (.string A) w'∧(convert 32 9 (.slice sa sm sc)).run Tryz.prog w'=.ok (.string B) w'):=fun w' z=>by
      obtain ⟨p0,p1,p2,p3,p4,p5,p6,p7,p8⟩:=z.ap.ba.cells
      obtain ⟨q0,q1,q2,q3,q4,q5,q6,q7,q8⟩:=z.ap.bb.cells
      exact ⟨p0,p1,p2,p3,p4,p5,p6,p7,p8,q0,q1,q2,q3,q4,q5,q6,q7,q8,by rw [←hA];exact own_conv z.o1,by rw [←hB];exact own_conv z.o2⟩
     have hqs0:(A.toList==B.toList)=q:=by
      have h1:A.toList=B.toList↔x=y:=by
       rw [bl_toList,bl_toList,←hA,←hB,bl_mkB,bl_mkB]
       exact hAB.out
      cases q with
      | true=>exact beq_iff_eq.2 (h1.2 (hqx.out.1 rfl))
      | false=>exact beq_eq_false_iff_ne.2 fun e=>by have:=hqx.out.2 (h1.1 e);cases this
     have hqs:∀ W:World,Sem.run Tryz.prog (binOp BinOp.eql 9 (.string A) (.string B)) W=.ok (.bool q) W:=fun W=>by
      simp [go_sem,hqs0]
     have hbt:∀ W:World,Sem.run Tryz.prog (binOp BinOp.eql 4 (.bool q) (.bool q)) W=.ok (.bool true) W:=fun W=>by cases q <;> first|rfl|simp [go_sem]
     clear hA hB u1 u2 l1 l2 k1 k2 hAB hqx O1 O2 B3 B4 T2z T3z ap g ht gz hhp hhq tb rx ry T4
     go_wp2_with fail
     go_region_held3 (fun w'=>w'.cell? ⟨w.heap.size,0,none⟩=some (.int .i64 hp.kind)∧w'.cell? ⟨w.heap.size,1,none⟩=some (.bool hp.flag)∧w'.cell? ⟨w.heap.size,2,none⟩=some (.bool hp.neg)∧w'.cell? ⟨w.heap.size,3,none⟩=some (.string hp.dig)∧w'.cell? ⟨w.heap.size,4,none⟩=some (.int .i64 hp.exp)∧w'.cell? ⟨w.heap.size,5,none⟩=some (.int .u64 hp.bits)∧w'.cell? ⟨w.heap.size,6,none⟩=some (.string hp.text)∧w'.cell? ⟨w.heap.size,7,none⟩=some (.slice a1 a2 a3)∧w'.cell? ⟨w.heap.size,8,none⟩=some (.slice a4 a5 a6)∧w'.cell? ⟨w.heap.size + 1,0,none⟩=some (.int .i64 hq.kind)∧w'.cell? ⟨w.heap.size + 1,1,none⟩=some (.bool hq.flag)∧w'.cell? ⟨w.heap.size + 1,2,none⟩=some (.bool hq.neg)∧w'.cell? ⟨w.heap.size + 1,3,none⟩=some (.string hq.dig)∧w'.cell? ⟨w.heap.size + 1,4,none⟩=some (.int .i64 hq.exp)∧w'.cell? ⟨w.heap.size + 1,5,none⟩=some (.int .u64 hq.bits)∧w'.cell? ⟨w.heap.size + 1,6,none⟩=some (.string hq.text)∧w'.cell? ⟨w.heap.size + 1,7,none⟩=some (.slice b1 b2 b3)∧w'.cell? ⟨w.heap.size + 1,8,none⟩=some (.slice b4 b5 b6)∧(convert 32 9 (.slice ra rm rc)).run Tryz.prog w'=.ok (.string A) w'∧(convert 32 9 (.slice sa sm sc)).run Tryz.prog w'=.ok (.string B) w') (first|exact mkS.out _ (by repeat (first|(with_reducible exact Hid.out (by assumption))|(with_reducible refine Av.drew ?_)|(with_reducible refine Av.dr ?_)|(with_reducible refine Av.al ?_)))) (first|(go_at_call 12;(with_reducible refine Calls.mono (hAw.out _ ?_) ?_);exact (LB.out _ (by repeat (first|(with_reducible exact Hid.out (by assumption))|(with_reducible refine Av.drew ?_)|(with_reducible refine Av.dr ?_)|(with_reducible refine Av.al ?_))));rintro e v1 ⟨rfl,hb3⟩;have T3:Hid (Av w hp hq (.slice a1 a2 a3) (.slice a4 a5 a6) (.slice b1 b2 b3) (.slice b4 b5 b6) (.slice ra rm rc) (.slice sa sm sc) (xtx n x) (xtx n y) v1):=Av.then (by repeat (first|(with_reducible exact Hid.out (by assumption))|(with_reducible refine Av.drew ?_)|(with_reducible refine Av.dr ?_)|(with_reducible refine Av.al ?_))) hb3)|(go_at_call 13;(with_reducible refine Calls.mono (kr.out _ ?_) ?_);exact (LB.out _ (by repeat (first|(with_reducible exact Hid.out (by assumption))|(with_reducible refine Av.drew ?_)|(with_reducible refine Av.dr ?_)|(with_reducible refine Av.al ?_))));rintro e v1 ⟨rfl,hb3⟩;have T3:Hid (Av w hp hq (.slice a1 a2 a3) (.slice a4 a5 a6) (.slice b1 b2 b3) (.slice b4 b5 b6) (.slice ra rm rc) (.slice sa sm sc) (xtx n x) (xtx n y) v1):=Av.then (by repeat (first|(with_reducible exact Hid.out (by assumption))|(with_reducible refine Av.drew ?_)|(with_reducible refine Av.dr ?_)|(with_reducible refine Av.al ?_))) hb3))
     all_goals (go_wp2_with fail;go_ret;exact ⟨by first|rfl|(simp;done),(LB.out _ (Hid.out (by assumption)))⟩)
    ·go_wp2_with fail
     refine (aw.out _ T4.out.below).mono ?_
     rintro e w5 ⟨rfl,hb5⟩
     go_wp2_with fail
     go_ret
     exact ⟨rfl,below_then T4.out.below hb5⟩
   ·go_wp2_with fail
    refine (aw.out _ T4.out.below).mono ?_
    rintro e w5 ⟨rfl,hb5⟩
    go_wp2_with fail
    go_ret
    exact ⟨rfl,below_then T4.out.below hb5⟩
  ·go_wp2_with fail
   go_ret
   exact ⟨rfl,T2.out.below⟩
 ·go_wp2_with fail
  go_ret
  exact ⟨rfl,T1.out.below⟩
end Go.Proofs.YthodiandebahdaaGreatDoor
