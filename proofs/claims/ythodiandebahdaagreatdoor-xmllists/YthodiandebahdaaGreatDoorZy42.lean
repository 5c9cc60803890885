/- Merged by program: BhLists, BiLists. -/
import Derived.Test.YthodiandebahdaaGreatDoorZy40
import Derived.Test.YthodiandebahdaaGreatDoorZy33
namespace Go.Proofs.YthodiandebahdaaGreatDoor
open Go.RowKit
set_option linter.unusedSimpArgs false
set_option linter.unusedVariables false
set_option maxHeartbeats 8000000
theorem mkB_cat2 (a b:List UInt8):mkB a++mkB b=mkB (a++b):=by
 apply ByteArray.ext
 simp [mkB]
theorem cat_run2 (a b:ByteArray) (c:List UInt8) (hc:bl a++bl b=c) (h:c.length≤281474976710656):∀ w,(Op.stringOp .add a b).run Tryz.prog w=.ok (.string (mkB c)) w:=fun w=>by
 have e:a++b=mkB c:=by
  rw [←mkB_bl a,←mkB_bl b,mkB_cat2,hc]
 have hs:a.size + b.size=c.length:=by rw [←bl_length,←bl_length,←hc,List.length_append]
 rw [←e]
 exact run_string_add_sum w _ _ (by omega)
theorem heap_in {W:World} {i:Nat} {o:Obj} (h:W.heap[i]?=some o):i<W.heap.size:=(Array.getElem?_eq_some_iff.1 h).1
theorem rd_pair {n:Nat} {W:World} {x y:VT n} {ns ls ns' ls':Value} {B:Nat} {cs:Array Value} (hc:cs=vals (vhd n x) ns ls++vals (vhd n y) ns' ls') (hB:W.heap[B]?=some (.cells cs 29 (0,0))) (h:RD n W x ns ls) (h':RD n W y ns' ls'):RD (n + 1) W ((zr 7,[x,y]):VT (n + 1)) (.slice none 0 0) (.slice (some ⟨B,0,none⟩) 2 2):=by
 have hcell:∀ j,W.cell? ⟨B,j,none⟩=cs[j]?:=fun j=>by unfold World.cell?;rw [hB];rfl
 refine ⟨Or.inl ⟨rfl,rfl⟩,Or.inr ⟨B,0,2,none,rfl,Nat.le_refl _,by decide,fun _=>⟨rfl,heap_in hB⟩,fun i hi=>?_⟩⟩
 have hi0:i<2:=hi
 have s1:(vals (vhd n x) ns ls).size=9:=rfl
 match i,hi0 with
 | 0,_ =>
  refine ⟨ns,ls,?_,h⟩
  intro j v hj
  have hj9:j<9:=(List.getElem?_eq_some_iff.1 hj).1
  rw [hcell,hc,Array.getElem?_append_left (by rw [s1];omega),show 0 + 0 * 9 + j=j by omega,←Array.getElem?_toList]
  exact hj
 | 1,_ =>
  refine ⟨ns',ls',?_,h'⟩
  intro j v hj
  have hj9:j<9:=(List.getElem?_eq_some_iff.1 hj).1
  rw [hcell,hc,Array.getElem?_append_right (by rw [s1];omega),s1,show 0 + 1 * 9 + j - 9=j by omega,←Array.getElem?_toList]
  exact hj
section
variable {n : Nat} {x y : VT n}
theorem mem_pair {p:VT n→Prop} (h:p x) (k:p y):∀ z∈[x,y],p z:=by
 intro z hz
 rcases List.mem_cons.1 hz with q|q
 ·rw [q];exact h
 ·rw [List.mem_singleton.1 q];exact k
theorem sz_pair (h:Sz n x) (k:Sz n y):Sz (n + 1) ((zr 7,[x,y]):VT (n + 1)) :=
 ⟨by show 0≤281474976710656;omega,by show 0≤281474976710656;omega,by show 0≤281474976710656;omega,by intro s hs;simp [zr] at hs,mem_pair h k⟩
theorem siz_pair:siz (n + 1) ((zr 7,[x,y]):VT (n + 1))=siz n x + siz n y + 1:=by
 show 1 + suml [siz n x,siz n y]=_
 simp [suml];omega
theorem rg_pair (h:Rg n x) (k:Rg n y):Rg (n + 1) ((zr 7,[x,y]):VT (n + 1)):=⟨by show (0:Int)≤0;omega,by show (0:Int)<18446744073709551616;omega,mem_pair h k⟩
theorem chk_pair (h:Chk (n + 1) ((zr 7,[x,y]):VT (n + 1)) 0):Chk n x 0∧Chk n y 0:=by
 obtain ⟨⟨_,_,v⟩,⟨_,_,_,s⟩,d,z⟩:=(chk_zero h).1 rfl
 have hd:dep (n + 1) ((zr 7,[x,y]):VT (n + 1))=1 + max (dep n x) (max (dep n y) 0):=rfl
 rw [hd] at d
 rw [siz_pair] at z
 have hm1:x∈[x,y]:=by simp
 have hm2:y∈[x,y]:=by simp
 exact ⟨Or.inr (Or.inr ⟨rfl,v x hm1,s x hm1,by omega,by omega⟩),Or.inr (Or.inr ⟨rfl,v y hm2,s y hm2,by omega,by omega⟩)⟩
theorem xtx_pair:xtx (n + 1) ((zr 7,[x,y]):VT (n + 1))=mList++(xtx n x++(xtx n y++mListE)):=by
 show (if ((zr 7,[x,y]):VT (n + 1)).1.kind=1 then _ else _)=_
 rw [if_neg (show ¬ ((zr 7,[x,y]):VT (n + 1)).1.kind=1 from by show ¬ (7:Int)=1;decide),if_neg (show ¬ ((zr 7,[x,y]):VT (n + 1)).1.kind=2 from by show ¬ (7:Int)=2;decide),if_neg (show ¬ ((zr 7,[x,y]):VT (n + 1)).1.kind=3 from by show ¬ (7:Int)=3;decide),if_neg (show ¬ ((zr 7,[x,y]):VT (n + 1)).1.kind=4 from by show ¬ (7:Int)=4;decide),if_neg (show ¬ ((zr 7,[x,y]):VT (n + 1)).1.kind=5 from by show ¬ (7:Int)=5;decide),if_neg (show ¬ ((zr 7,[x,y]):VT (n + 1)).1.kind=6 from by show ¬ (7:Int)=6;decide),if_pos (show ((zr 7,[x,y]):VT (n + 1)).1.kind=7 from rfl)]
 have e:([x,y]:List (VT n)).length=2:=rfl
 have r:List.range 2=[0,1]:=rfl
 show mList++(((List.range ([x,y]:List (VT n)).length).map _).flatten++mListE)=_
 rw [e,r]
 simp
end
structure Bv (w:World) (h g:Hd) (na la nb lb va vb vc:Value) (J K L:List UInt8) (W:World):Prop where
 ap:Ap w h g na la nb lb W
 o1:Own W w.heap.size va J
 o2:Own W w.heap.size vb K
 o3:Own W w.heap.size vc L
theorem Bv.then {w:World} {h g:Hd} {na la nb lb va vb vc:Value} {J K L:List UInt8} {W W1:World} (k:Bv w h g na la nb lb va vb vc J K L W) (hb:Below W.heap.size W W1):Bv w h g na la nb lb va vb vc J K L W1 :=
 ⟨k.ap.then hb,own_of k.o1 fun i _ hlt=>hb.block i hlt,own_of k.o2 fun i _ hlt=>hb.block i hlt,own_of k.o3 fun i _ hlt=>hb.block i hlt⟩
set_option maxRecDepth 100000 in
theorem xlists_law (n:Nat) (x y:VT n) (ns ls ns' ls':Value) (w:World) (hx:RD n w x ns ls) (zx:Sz n x) (rx:Rg n x) (hy:RD n w y ns' ls') (zy:Sz n y) (ry:Rg n y) (g:Ut.Gu w) (ht:Tab w.heap.size w) (gz:Gz w) (aw:AwOk w) :
  Calls Tryz.prog 6 #[.agg (vals (vhd n x) ns ls),.agg (vals (vhd n y) ns' ls')] w fun e w'=>e=.returned (.bool true)∧Below w.heap.size w w':=by
 obtain ⟨a1,a2,a3,a4,a5,a6,rfl,rfl⟩:=hx.shape
 obtain ⟨b1,b2,b3,b4,b5,b6,rfl,rfl⟩:=hy.shape
 obtain ⟨hp,hhp⟩:∃ h,vhd n x=h:=⟨_,rfl⟩
 obtain ⟨hq,hhq⟩:∃ h,vhd n y=h:=⟨_,rfl⟩
 have gx:=hide (fun W (hb:Below w.heap.size w W)=>Go.Proofs.YthodiandebahdaaGreatDoor.big_any n x _ _ W (hx.below hb) zx)
 have gy:=hide (fun W (hb:Below w.heap.size w W)=>Go.Proofs.YthodiandebahdaaGreatDoor.big_any n y _ _ W (hy.below hb) zy)
 have T0:=hide (ap_new w hp hq (.slice a1 a2 a3) (.slice a4 a5 a6) (.slice b1 b2 b3) (.slice b4 b5 b6))
 replace hx:=hide hx
 replace zx:=hide zx
 replace rx:=hide rx
 replace hy:=hide hy
 replace zy:=hide zy
 replace ry:=hide ry
 replace g:=hide g
 replace ht:=hide ht
 replace gz:=hide gz
 replace aw:=hide aw
 rw [hhp] at gx ⊢
 rw [hhq] at gy ⊢
 replace hhp:=hide hhp
 replace hhq:=hide hhq
 show Calls _ _ #[.agg #[.int .i64 hp.kind,.bool hp.flag,.bool hp.neg,.string hp.dig,.int .i64 hp.exp,.int .u64 hp.bits,.string hp.text,.slice a1 a2 a3,.slice a4 a5 a6],.agg #[.int .i64 hq.kind,.bool hq.flag,.bool hq.neg,.string hq.dig,.int .i64 hq.exp,.int .u64 hq.bits,.string hq.text,.slice b1 b2 b3,.slice b4 b5 b6]] _ _
 go_enter Tryz.func6, Tryz.ntmps6
 go_wp2_with fail
 refine (gx.out _ T0.out.below).mono ?_
 rintro e w1 ⟨bb,rfl,sx,hb1⟩
 have T1:=hide (T0.out.then hb1)
 clear T0 hb1
 cases bb
 ·obtain ⟨p0,p1,p2,p3,p4,p5,p6,p7,p8⟩:=T1.out.bb.cells
  go_wp2_with fail
  refine (gy.out _ T1.out.below).mono ?_
  rintro e w2 ⟨bb,rfl,sy,hb2⟩
  have T2:=hide (T1.out.then hb2)
  clear T1 hb2 p0 p1 p2 p3 p4 p5 p6 p7 p8
  cases bb
  ·replace sx:=hide (sx.out (by simp))
   replace sy:=hide (sy.out (by simp))
   have bx:siz n x≤65536:=Nat.le_trans (siz_blk n x) sx.out.1
   have by':siz n y≤65536:=Nat.le_trans (siz_blk n y) sy.out.1
   have Rx:Hid (∀ W,Below w.heap.size w W→Rdy n W x _ _):=fun W hb=>⟨hx.out.below hb,zx.out,by omega⟩
   have Ry:Hid (∀ W,Below w.heap.size w W→Rdy n W y _ _):=fun W hb=>⟨hy.out.below hb,zy.out,by omega⟩
   have tb:Hid (∀ W,Below w.heap.size w W→Tab W.heap.size W):=fun W hb=>Tab.up (ht.out.on hb) hb.size
   have c1:=hide (fun W (hb:Below w.heap.size w W)=>jx_any n x _ _ W (Rx.out W hb) rx.out (g.out.below hb) (tb.out W hb) (gz.out.low hb gz.out.low8))
   have c2:=hide (fun W (hb:Below w.heap.size w W)=>jx_any n y _ _ W (Ry.out W hb) ry.out (g.out.below hb) (tb.out W hb) (gz.out.low hb gz.out.low8))
   obtain ⟨P,hP⟩:∃ P:VT (n + 1),P=((zr 7,[x,y]):VT (n + 1)):=⟨_,rfl⟩
   have c3:=hide (fun W (hb:Below w.heap.size w W)=>jx_any (n + 1) P (.slice none 0 0) (.slice (some ⟨W.heap.size,0,none⟩) 2 2) (W.alloc (.cells (vals hp (.slice a1 a2 a3) (.slice a4 a5 a6)++vals hq (.slice b1 b2 b3) (.slice b4 b5 b6)) 29)) ⟨by rw [hP];exact rd_pair (by rw [hhp.out,hhq.out]) (heap_alloc_last W _) (hx.out.below (below_al hb)) (hy.out.below (below_al hb)),by rw [hP];exact sz_pair zx.out zy.out,by rw [hP,siz_pair];omega⟩ (by rw [hP];exact rg_pair rx.out ry.out) (g.out.below (below_al hb)) (tb.out _ (below_al hb)) (gz.out.low (below_al hb) gz.out.low8))
   rw [hhp.out] at c1
   rw [hhq.out] at c2
   rw [show vhd (n + 1) P=zr 7 from by rw [hP];rfl] at c3
   simp only [vals,zr] at c3
   replace hP:=hide hP
   clear gx gy bx by' hx hy zx zy sx sy Rx Ry
   obtain ⟨p0,p1,p2,p3,p4,p5,p6,p7,p8⟩:=T2.out.ba.cells
   obtain ⟨q0,q1,q2,q3,q4,q5,q6,q7,q8⟩:=T2.out.bb.cells
   go_wp2_with fail
   refine (c1.out _ T2.out.below).mono ?_
   rintro e w3 ⟨hb3,ra,rm,rc,C1,rfl,o1,o1'⟩
   have T3:=hide (T2.out.then hb3)
   have T2z:=hide T2.out.below.size
   have O1:=hide o1
   have O1':=hide o1'
   have B3:=hide hb3
   clear T2 hb3 o1 o1' c1 p0 p1 p2 p3 p4 p5 p6 p7 p8 q0 q1 q2 q3 q4 q5 q6 q7 q8
   obtain ⟨p0,p1,p2,p3,p4,p5,p6,p7,p8⟩:=T3.out.ba.cells
   obtain ⟨q0,q1,q2,q3,q4,q5,q6,q7,q8⟩:=T3.out.bb.cells
   go_wp2_with fail
   refine (c2.out _ T3.out.below).mono ?_
   rintro e w4 ⟨hb4,sa,sm,sc,C2,rfl,o2,o2'⟩
   have T4:=hide (T3.out.then hb4)
   have T3z:=hide T3.out.below.size
   have O2:=hide o2
   have O2':=hide o2'
   have B4:=hide hb4
   clear T3 hb4 o2 o2' c2 p0 p1 p2 p3 p4 p5 p6 p7 p8 q0 q1 q2 q3 q4 q5 q6 q7 q8
   obtain ⟨p0,p1,p2,p3,p4,p5,p6,p7,p8⟩:=T4.out.ba.cells
   obtain ⟨q0,q1,q2,q3,q4,q5,q6,q7,q8⟩:=T4.out.bb.cells
   go_wp2_with fail
   refine (c3.out _ T4.out.below).mono ?_
   rintro e w5 ⟨hb5,ta,tm,tc,C3,rfl,o3,o3'⟩
   have T5:=hide (T4.out.then (below_then (below_al (Below.refl _ _)) hb5))
   have O3:=hide o3
   have O3':=hide o3'
   have B5:=hide (below_then (below_al (Below.refl _ _)) hb5)
   have hAw:Hid (∀ W,Below w.heap.size w W→Calls Tryz.prog 12 #[] W fun e w'=>e=.returned (.bool true)∧Below W.heap.size W w'):=aw.out
   have T4z:Hid (∀ o,w.heap.size≤(w4.alloc o).heap.size):=fun o=>Nat.le_trans T4.out.below.size (below_al (Below.refl _ _)).size
   clear hb5 o3 o3' c3 p0 p1 p2 p3 p4 p5 p6 p7 p8 q0 q1 q2 q3 q4 q5 q6 q7 q8 T4
   by_cases e3:C3=0
   ·subst e3
    obtain ⟨k3,l3,u3⟩:=O3.out rfl
    rw [hP.out] at k3
    obtain ⟨kx,ky⟩:=chk_pair k3
    have l3':=l3
    rw [hP.out,xtx_pair] at l3'
    simp only [List.length_cons,List.length_append] at l3'
    have e1:C1=0:=by
     apply Classical.byContradiction
     intro q
     have:=(O1'.out q).2 kx
     omega
    have e2:C2=0:=by
     apply Classical.byContradiction
     intro q
     have:=(O2'.out q).2 ky
     omega
    subst e1
    subst e2
    obtain ⟨k1,l1,u1⟩:=O1.out rfl
    obtain ⟨k2,l2,u2⟩:=O2.out rfl
    have V5:Hid (Bv w hp hq (.slice a1 a2 a3) (.slice a4 a5 a6) (.slice b1 b2 b3) (.slice b4 b5 b6) (.slice ra rm rc) (.slice sa sm sc) (.slice ta tm tc) (xtx n x) (xtx n y) (xtx (n + 1) P) w5):=⟨T5.out,ownsRow_low (own_of (own_of u1 fun k _ hlt=>B4.out.block k hlt) fun k _ hlt=>B5.out.block k hlt) T2z.out,ownsRow_low (own_of u2 fun k _ hlt=>B5.out.block k hlt) T3z.out,ownsRow_low u3 (T4z.out _)⟩
    have LB:Hid (∀ W,Bv w hp hq (.slice a1 a2 a3) (.slice a4 a5 a6) (.slice b1 b2 b3) (.slice b4 b5 b6) (.slice ra rm rc) (.slice sa sm sc) (.slice ta tm tc) (xtx n x) (xtx n y) (xtx (n + 1) P) W→Below w.heap.size w W):=fun W q=>q.ap.below
    obtain ⟨A,hA⟩:∃ A,mkB (xtx n x)=A:=⟨_,rfl⟩
    obtain ⟨B,hB⟩:∃ B,mkB (xtx n y)=B:=⟨_,rfl⟩
    obtain ⟨C,hC⟩:∃ C,mkB (xtx (n + 1) P)=C:=⟨_,rfl⟩
    have mkS:Hid (∀ w',Bv w hp hq (.slice a1 a2 a3) (.slice a4 a5 a6) (.slice b1 b2 b3) (.slice b4 b5 b6) (.slice ra rm rc) (.slice sa sm sc) (.slice ta tm tc) (xtx n x) (xtx n y) (xtx (n + 1) P) w'→(convert 32 9 (.slice ra rm rc)).run Tryz.prog w'=.ok (.string A) w'∧(convert 32 9 (.slice sa sm sc)).run Tryz.prog w'=.ok (.string B) w'∧(convert 32 9 (.slice ta tm tc)).run Tryz.prog w'=.ok (.string C) w'):=fun w' z=>⟨by rw [←hA];exact own_conv z.o1,by rw [←hB];exact own_conv z.o2,by rw [←hC];exact own_conv z.o3⟩
    have bA:bl A=xtx n x:=by rw [←hA,bl_mkB]
    have bB:bl B=xtx n y:=by rw [←hB,bl_mkB]
    have bC:bl C=xtx (n + 1) P:=by rw [←hC,bl_mkB]
    obtain ⟨X1,x1⟩:∃ X,mList++bl A=X:=⟨_,rfl⟩
    obtain ⟨X2,x2⟩:∃ X,X1++bl B=X:=⟨_,rfl⟩
    obtain ⟨X3,x3⟩:∃ X,X2++mListE=X:=⟨_,rfl⟩
    have z4:X3=bl C:=by rw [bC,hP.out,xtx_pair,←x3,←x2,←x1,bA,bB];simp
    have z1:X3.length≤65536:=by rw [z4,bC];exact l3
    have z2:X1.length≤X2.length∧X2.length≤X3.length:=by rw [←x3,←x2];simp
    have a1':=cat_run2 (mkB mList) A X1 (by rw [bl_mkB];exact x1) (by omega)
    have a2':=cat_run2 (mkB X1) B X2 (by rw [bl_mkB];exact x2) (by omega)
    have a3':=cat_run2 (mkB X2) (mkB mListE) X3 (by rw [bl_mkB];exact x3) (by omega)
    have hqs0:(C.toList==(mkB X3).toList)=true:=by rw [bl_toList,bl_toList,bl_mkB,z4];simp
    obtain ⟨Y1,y1⟩:∃ Y,mkB X1=Y:=⟨_,rfl⟩
    obtain ⟨Y2,y2⟩:∃ Y,mkB X2=Y:=⟨_,rfl⟩
    obtain ⟨Y3,y3⟩:∃ Y,mkB X3=Y:=⟨_,rfl⟩
    rw [y1] at a1' a2'
    rw [y2] at a2' a3'
    rw [y3] at a3' hqs0
    rw [show mkB mList=⟨#[60,108,105,115,116,62]⟩ from rfl] at a1'
    rw [show mkB mListE=⟨#[60,47,108,105,115,116,62]⟩ from rfl] at a3'
    have hqs:∀ W:World,Sem.run Tryz.prog (binOp BinOp.eql 9 (.string C) (.string Y3)) W=.ok (.bool true) W:=fun W=>by simp [go_sem,hqs0]
    clear hP x1 x2 x3 y1 y2 y3 z4 z1 z2 bA bB bC hA hB hC u1 u2 u3 l1 l2 l3 l3' k1 k2 k3 kx ky O1 O2 O3 O1' O2' O3' B3 B4 B5 T2z T3z T4z g ht gz hhp hhq tb rx ry
    go_wp2_with fail
    refine (hAw.out _ T5.out.below).mono ?_
    rintro e w6 ⟨rfl,hb6⟩
    have V6:=hide (V5.out.then hb6)
    obtain ⟨g1,g2,g3⟩:=mkS.out _ V6.out
    clear hb6
    go_wp2_with fail
    go_ret
    exact ⟨by first|rfl|(simp;done),LB.out _ V6.out⟩
   ·have e3n:(C3 != 0)=true:=by simpa using e3
    have e3m:(C3==0)=false:=by simpa using e3
    have e3d:decide (C3=0)=false:=decide_eq_false e3
    replace e3:=hide e3
    by_cases e1:C1=0
    ·subst e1
     by_cases e2:C2=0
     ·subst e2
      go_wp2_with fail
      refine (hAw.out _ T5.out.below).mono ?_
      rintro e w6 ⟨rfl,hb6⟩
      have T6:=hide (T5.out.then hb6)
      clear hb6
      go_wp2_with fail
      go_ret
      exact ⟨by first|rfl|(simp;done),T6.out.below⟩
     ·have e2n:(C2 != 0)=true:=by simpa using e2
      replace e2:=hide e2
      go_wp2_with fail
      refine (hAw.out _ T5.out.below).mono ?_
      rintro e w6 ⟨rfl,hb6⟩
      have T6:=hide (T5.out.then hb6)
      clear hb6
      go_wp2_with fail
      go_ret
      exact ⟨by first|rfl|(simp;done),T6.out.below⟩
    ·have e1n:(C1 != 0)=true:=by simpa using e1
     replace e1:=hide e1
     go_wp2_with fail
     refine (hAw.out _ T5.out.below).mono ?_
     rintro e w6 ⟨rfl,hb6⟩
     have T6:=hide (T5.out.then hb6)
     clear hb6
     go_wp2_with fail
     go_ret
     exact ⟨by first|rfl|(simp;done),T6.out.below⟩
  ·go_wp2_with fail
   go_ret
   exact ⟨rfl,T2.out.below⟩
 ·go_wp2_with fail
  go_ret
  exact ⟨rfl,T1.out.below⟩
theorem xlists_full (n:Nat) (x y:VT n) (ns ls ns' ls':Value) (w:World) (hx:RD n w x ns ls) (zx:Sz n x) (rx:Rg n x) (hy:RD n w y ns' ls') (zy:Sz n y) (ry:Rg n y) (g:Ut.Gu w) (ht:Tab w.heap.size w) (gz:Gz w) :
  Calls Tryz.prog 6 #[.agg (vals (vhd n x) ns ls),.agg (vals (vhd n y) ns' ls')] w fun e w'=>e=.returned (.bool true)∧Below w.heap.size w w' :=
 xlists_law n x y ns ls ns' ls' w hx zx rx hy zy ry g ht gz fun W hb=>xawake_any W (g.below hb) (Tab.up (ht.on hb) hb.size) (gz.low hb gz.low8)
end Go.Proofs.YthodiandebahdaaGreatDoor
