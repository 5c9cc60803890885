import Derived.Test.YtcnfchblfcfimaaGreatDoorZh42
set_option linter.all false
set_option maxHeartbeats 4000000
set_option maxRecDepth 100000
namespace Go.Proofs.YtcnfchblfcfimaaGreatDoor
open Proofs.Tryz RowKit
section
open Go.ChangeShapes Go.WideShapes Go.ChangeAt Go.RowKit Go.Joins Go.Shelf
def KZ : List (String × DataW Unit) := [("math/bits.deBruijn32tab", Rows.laid_math_bits_deBruijn32tab), ("math/bits.deBruijn64tab", Rows.laid_math_bits_deBruijn64tab), ("internal/strconv.uint64pow10", Rows.laid_internal_strconv_uint64pow10), ("unicode/utf8.acceptRanges", Rows.laid_unicode_utf8_acceptRanges), ("strconv.ErrRange", Rows.laid_strconv_ErrRange), ("strconv.ErrSyntax", Rows.laid_strconv_ErrSyntax), ("calamus/utf.between", Rows.laid_calamus_utf_between), ("calamus/utf.longer", Rows.laid_calamus_utf_longer), ("calamus/lex.words", Rows.laid_calamus_lex_words), ("calamus/lex.longest", Rows.laid_calamus_lex_longest), ("calamus/types.plainKinds", Rows.laid_calamus_types_plainKinds), ("calamus/lang.plainSteps", Rows.laid_calamus_lang_plainSteps), ("calamus/lang.plainTypes", Rows.laid_calamus_lang_plainTypes), ("unicode/utf8.first", Rows.laid_unicode_utf8_first)]
theorem uj{W:World}{fuel:Nat}{cs:List Value}{p:List MemPlace}
  (hd:DataW.trod (fun _=>()) prog W 0 (fun _=>true) false fuel 104 cs=some (Rows.laid_calamus_lang_plainSteps,p)):cs=Lx.plC.toList:=by
 obtain⟨xs,m1,rfl,dx,aL,zn,qM⟩:=DataW.trod_array Tryz.underlying104 hd;rw[show Tryz.prog.cellsOf 104=12 by kernel_rfl]at aL;have key:∀(i:Nat) (bs:List UInt8),i<12->(match (Rows.laid_calamus_lang_plainSteps:DataW Unit)with | .agg ds=>ds|_=>[])[i]?=some (.lit (.string bs))->(cs.drop (i*1)).take 1=[.string (aj bs)]:=by intro i bs hi uZ;obtain⟨fuel',d',q,jE,he⟩:=Lib.array_elem Tryz.underlying104 hd i hi;have EN:=jE.symm.trans uZ;obtain rfl:=Option.some.inj EN;rw[show Tryz.prog.cellsOf 9=1 by kernel_rfl]at he;obtain⟨s,q1,q2,_⟩:=DataW.trod_string Tryz.underlying9 he;rw[q1];have q3:=congrArg Prod.fst q2;simp only[DataW.lit.injEq,Lit.string.injEq]at q3;rw[q3];exact congrArg (fun z=>[Value.string z]) (ByteArray.ext (by simp[aj]))
 have k0:=key 0 [] (by omega) rfl;have k1:=key 1 [105,100] (by omega) rfl;have k2:=key 2 [] (by omega) rfl;have k3:=key 3 [] (by omega) rfl;have k4:=key 4 [] (by omega) rfl;have k5:=key 5 [] (by omega) rfl;have k6:=key 6 [] (by omega) rfl;have k7:=key 7 [] (by omega) rfl;have k8:=key 8 [116,111,116,101,120,116] (by omega) rfl;have k9:=key 9 [116,111,110,117,109] (by omega) rfl;have k10:=key 10 [115,117,109] (by omega) rfl;have k11:=key 11 [99,111,117,110,116] (by omega) rfl;have e0:cs=cs.drop 0:=rfl;rw[e0,Ut.split_at' 0 1 cs,Ut.split_at' (0+1) 1 cs,Ut.split_at' (0+1+1) 1 cs,Ut.split_at' (0+1+1+1) 1 cs,Ut.split_at' (0+1+1+1+1) 1 cs,Ut.split_at' (0+1+1+1+1+1) 1 cs,Ut.split_at' (0+1+1+1+1+1+1) 1 cs,Ut.split_at' (0+1+1+1+1+1+1+1) 1 cs,Ut.split_at' (0+1+1+1+1+1+1+1+1) 1 cs,Ut.split_at' (0+1+1+1+1+1+1+1+1+1) 1 cs,Ut.split_at' (0+1+1+1+1+1+1+1+1+1+1) 1 cs,Ut.split_at' (0+1+1+1+1+1+1+1+1+1+1+1) 1 cs,List.drop_of_length_le (i:=0+1+1+1+1+1+1+1+1+1+1+1+1) (by omega)];simp only[Nat.reduceMul,Nat.reduceAdd]at k0 k1 k2 k3 k4 k5 k6 k7 k8 k9 k10 k11 ⊢;rw[k0,k1,k2,k3,k4,k5,k6,k7,k8,k9,k10,k11];rfl
theorem rZ{W:World}{fuel:Nat}{cs:List Value}{p:List MemPlace}
  (hd:DataW.trod (fun _=>()) prog W 0 (fun _=>true) false fuel 112 cs=some (Rows.laid_calamus_lang_plainTypes,p)):cs=Lx.ptC.toList:=by
 obtain⟨xs,m1,rfl,dx,aL,zn,qM⟩:=DataW.trod_array Tryz.underlying112 hd;rw[show Tryz.prog.cellsOf 112=9 by kernel_rfl]at aL;have key:∀(i:Nat) (bs:List UInt8),i<9->(match (Rows.laid_calamus_lang_plainTypes:DataW Unit)with | .agg ds=>ds|_=>[])[i]?=some (.lit (.string bs))->(cs.drop (i*1)).take 1=[.string (aj bs)]:=by intro i bs hi uZ;obtain⟨fuel',d',q,jE,he⟩:=Lib.array_elem Tryz.underlying112 hd i hi;have EN:=jE.symm.trans uZ;obtain rfl:=Option.some.inj EN;rw[show Tryz.prog.cellsOf 9=1 by kernel_rfl]at he;obtain⟨s,q1,q2,_⟩:=DataW.trod_string Tryz.underlying9 he;rw[q1];have q3:=congrArg Prod.fst q2;simp only[DataW.lit.injEq,Lit.string.injEq]at q3;rw[q3];exact congrArg (fun z=>[Value.string z]) (ByteArray.ext (by simp[aj]))
 have k0:=key 0 [] (by omega) rfl;have k1:=key 1 [97,110,121] (by omega) rfl;have k2:=key 2 [110,117,108,108] (by omega) rfl;have k3:=key 3 [98,111,111,108] (by omega) rfl;have k4:=key 4 [110,117,109] (by omega) rfl;have k5:=key 5 [105,110,116] (by omega) rfl;have k6:=key 6 [102,108,111,97,116] (by omega) rfl;have k7:=key 7 [116,101,120,116] (by omega) rfl;have k8:=key 8 [98,121,116,101,115] (by omega) rfl;have e0:cs=cs.drop 0:=rfl;rw[e0,Ut.split_at' 0 1 cs,Ut.split_at' (0+1) 1 cs,Ut.split_at' (0+1+1) 1 cs,Ut.split_at' (0+1+1+1) 1 cs,Ut.split_at' (0+1+1+1+1) 1 cs,Ut.split_at' (0+1+1+1+1+1) 1 cs,Ut.split_at' (0+1+1+1+1+1+1) 1 cs,Ut.split_at' (0+1+1+1+1+1+1+1) 1 cs,Ut.split_at' (0+1+1+1+1+1+1+1+1) 1 cs,List.drop_of_length_le (i:=0+1+1+1+1+1+1+1+1+1) (by omega)];simp only[Nat.reduceMul,Nat.reduceAdd]at k0 k1 k2 k3 k4 k5 k6 k7 k8 ⊢;rw[k0,k1,k2,k3,k4,k5,k6,k7,k8];rfl
theorem gP : Tryz.prog.globalNamed "internal/strconv.uint64pow10" = some 10 := by kernel_rfl
theorem Xi:(Tryz.prog.globals[10]?).map (·.type)=some 235:=by kernel_rfl
theorem AA{W:World}(h:laidMetH prog KZ W):Lx.Gw W:=by
 rw[MakeChecks.laidMetH_plain _ _ _ (by kernel_rfl)]at h;have h5:=bK (bK (bK (bK (bK h))));have h8:=bK (bK (bK h5));have hz : Lib.TabIs prog W "math/bits.deBruijn64tab" .u8 Rq := Lib.tabIs_of_head gZ Xg Tryz.underlying248 Tryz.underlying5 (by kernel_rfl) (by kernel_rfl) (bK h)
 have hw : Lib.TabIs prog W "calamus/lex.words" .i64 [0, 1, 3, 2, 4] := Lib.tabIs_of_head gW Xh Tryz.underlying121 Tryz.underlying86 (by kernel_rfl) (by kernel_rfl) h8
 have hl : Lib.TabIs prog W "calamus/lex.longest" .i64 [0, 64, 512, 4096, 1] := Lib.tabIs_of_head gL Xj Tryz.underlying95 Tryz.underlying3 (by kernel_rfl) (by kernel_rfl) (bK h8)
 obtain⟨ae,se,VA, -, -, -⟩:=laid_sentinel h5 gE Xk Tryz.underlying218 Og Tryz.underlying250 Tryz.underlying252 rfl rfl Tryz.underlying9 (by kernel_rfl) (by kernel_rfl);have r0:=Lib.laidMet.reads h (.tail _ (.tail _ (.tail _ (.head _))));have r1:=Lib.laidMet.reads h (.tail _ (.tail _ (.tail _ (.tail _ (.tail _ (.tail _ (.head _)))))));have r2:=Lib.laidMet.reads h (.tail _ (.tail _ (.tail _ (.tail _ (.tail _ (.tail _ (.tail _ (.head _))))))));have r3:=Lib.laidMet.reads h (.tail _ (.tail _ (.tail _ (.tail _ (.tail _ (.tail _ (.tail _ (.tail _ (.tail _ (.tail _ (.tail _ (.tail _ (.tail _ (.head _))))))))))))));rw[BK]at r0;have r3' : Lib.VarReads prog W "unicode/utf8.first" Lib.firstData := by rw[<-Pinned.utf8First_eq];exact r3
 have hT:Lib.Utf8Tabs 8 9 W:=utf8Tabs_of_reads {laysDR with} ⟨by kernel_rfl,by kernel_rfl,by kernel_rfl,by kernel_rfl,by kernel_rfl,by kernel_rfl,by kernel_rfl⟩ r3' r0;obtain⟨g1,t1,cs1,f1,p1,jL,tQ,Hv,jN⟩:=r1;obtain⟨g2,t2,cs2,f2,p2,ii,HJ,Lu,mc⟩:=r2;obtain rfl := Option.some.inj ((show Tryz.prog.globalNamed "calamus/utf.between" = some 4 by kernel_rfl).symm.trans jL)
 obtain rfl := Option.some.inj ((show Tryz.prog.globalNamed "calamus/utf.longer" = some 6 by kernel_rfl).symm.trans ii)
 obtain rfl:=Option.some.inj ((show Option.map (fun x=>x.type) Tryz.prog.globals[4]?=some 149 by kernel_rfl).symm.trans tQ);obtain rfl:=Option.some.inj ((show Option.map (fun x=>x.type) Tryz.prog.globals[6]?=some 202 by kernel_rfl).symm.trans HJ);have e1:=Ut.spans_cells jN;have e2:=Ut.longer_cells mc;obtain⟨t,fr,q1⟩:=Ut.heap_of_var jL Hv;obtain⟨t',fr',q2⟩:=Ut.heap_of_var ii Lu;have bB:cs1=#[.int .u8 0,.int .u8 0,.int .u8 0,.int .u8 0,.int .u8 0,.int .u8 0,.int .u8 0,.int .u8 0]:=Array.toList_inj.1 e1;have br:cs2=Ut.lgC:=Array.toList_inj.1 e2;rw[bB]at q1;rw[br]at q2;obtain⟨tz,fz,qz⟩:=Ut.heap_of_var gZ hz;obtain⟨tw,fw,qw⟩:=Ut.heap_of_var gW hw;obtain⟨tl,fl,ql⟩:=Ut.heap_of_var gL hl;have r4:=Lib.laidMet.reads h (.tail _ (.tail _ (.tail _ (.tail _ (.tail _ (.tail _ (.tail _ (.tail _ (.tail _ (.tail _ (.head _)))))))))));have r5:=Lib.laidMet.reads h (.tail _ (.tail _ (.tail _ (.tail _ (.tail _ (.tail _ (.tail _ (.tail _ (.tail _ (.tail _ (.tail _ (.head _))))))))))));have r6:=Lib.laidMet.reads h (.tail _ (.tail _ (.tail _ (.tail _ (.tail _ (.tail _ (.tail _ (.tail _ (.tail _ (.tail _ (.tail _ (.tail _ (.head _)))))))))))));obtain⟨g4,t4,cs4,f4,p4,Md,VH,VF,WD⟩:=r4;obtain⟨g5,t5,cs5,f5,p5,Ur,VG,VE,WC⟩:=r5;obtain⟨g6,t6,cs6,f6,p6,Uq,Sa,RW,WB⟩:=r6;obtain rfl := Option.some.inj ((show Tryz.prog.globalNamed "calamus/types.plainKinds" = some 5 by kernel_rfl).symm.trans Md)
 obtain rfl := Option.some.inj ((show Tryz.prog.globalNamed "calamus/lang.plainSteps" = some 1 by kernel_rfl).symm.trans Ur)
 obtain rfl := Option.some.inj ((show Tryz.prog.globalNamed "calamus/lang.plainTypes" = some 2 by kernel_rfl).symm.trans Uq)
 obtain rfl:=Option.some.inj ((show Option.map (fun x=>x.type) Tryz.prog.globals[5]?=some 196 by kernel_rfl).symm.trans VH);obtain rfl:=Option.some.inj ((show Option.map (fun x=>x.type) Tryz.prog.globals[1]?=some 104 by kernel_rfl).symm.trans VG);obtain rfl:=Option.some.inj ((show Option.map (fun x=>x.type) Tryz.prog.globals[2]?=some 112 by kernel_rfl).symm.trans Sa);have e4:=Ax WD;have e5:=uj WC;have e6:=rZ WB;obtain⟨t4,fr4,q4⟩:=Ut.heap_of_var Md VF;obtain⟨t5,fr5,q5⟩:=Ut.heap_of_var Ur VE;obtain⟨t6,fr6,q6⟩:=Ut.heap_of_var Uq RW;rw[show cs4=yF from Array.toList_inj.1 e4]at q4;rw[show cs5=Lx.plC from Array.toList_inj.1 e5]at q5;rw[show cs6=Lx.ptC from Array.toList_inj.1 e6]at q6;have Su : Lib.TabIs prog W "internal/strconv.uint64pow10" .u64 Lib.pow10Tab := Lib.tabIs_of_head gP Xi Tryz.underlying235 Tryz.underlying28 (by kernel_rfl) (by kernel_rfl) (bK (bK h))
 refine⟨⟨?_,⟨⟨t5,fr5,q5⟩,t6,fr6,q6⟩,Lib.tabBelow_of_tabIs Su⟩,⟨t4,fr4,q4⟩⟩;refine⟨⟨⟨t,fr,q1⟩,⟨t',fr',q2⟩⟩,hT,⟨_,by simpa using World.var?_cell gE VA 0,Or.inr ⟨_,_,rfl⟩⟩,Qu ?_ ?_ ?_ ?_ ?_,Qu ?_ ?_ ?_ ?_ ?_,?_⟩
 all_goals first|(simp[World.cell?,ql,Lx.lgK];done)|(simp[World.cell?,qw,Lx.wdK];done)|skip
 have bm:14<W.heap.size:=(Array.getElem?_eq_some_iff.1 qz).1;omega
end
namespace Lx
structure JW(w:World)(h:Eh)(q q':Sl)(W:World):Prop where
 below:Below w.heap.size w W
 ba:Ex W w.heap.size h q
 bb:Ex W (w.heap.size+1) h q'
theorem JW.then{w W W1:World}{h:Eh}{q q':Sl}(k:JW w h q q' W)(hb:Below W.heap.size W W1):JW w h q q' W1:=⟨ac k.below hb,k.ba.below hb,k.bb.below hb⟩
theorem JW.new(w:World)(h:Eh)(q q':Sl):JW w h q q' ((w.alloc (.cells (ecl h q) 33)).alloc (.cells (ecl h q') 33)):=by refine⟨ab (ab af),(bC w h q).below (ab af),?_⟩;have:=bC (w.alloc (.cells (ecl h q) 33)) h q';rw[World.size_alloc]at this;exact this
theorem rz{L:Nat}{w W:World}(h:Below L w W):Below L w W.drew:=h.drew
theorem nX{L:Nat}{w W:World}(h:Below L w W)(n:Nat):Below L w (W.drewN n):=h.trans (gc _ _ _)
theorem Bo:∀(n:Nat) (x:ET n) (q q':Sl) (w:World),RE n w x q->RE n w x q' ->
  Calls prog 12 #[.agg (ecl (ehd n x) q),.agg (ecl (ehd n x) q')] w fun e w'=>e=.returned (.bool true)/\Below w.heap.size w w':=by
 intro n
 induction n with
 |zero=>intro x;exact Empty.elim x
 |succ n ih=>
  intro x q q' w hr Ic;obtain⟨⟨op,nm,nms,vn,val⟩,l⟩:=x;have hx:=aa hr;have hy:=aa Ic;have ih':=aa ih;obtain⟨al,cl,e1,bB,br⟩:=hr.tl.len;obtain⟨an,cn,e2,cm,df⟩:=hr.1.len;obtain⟨bl',dl,e3,jN,mc⟩:=Ic.tl.len;obtain⟨bn,dn,e4,qr,nR⟩:=Ic.1.len;obtain⟨x1,y1,z1,x2,y2,z2,x3,y3,z3,x4,y4,z4,aK⟩:=hr.shape;subst aK;obtain⟨uz1,vz1,tz1,uz2,vz2,tz2,uz3,vz3,tz3,uz4,vz4,tz4,aK⟩:=Ic.shape;subst aK;obtain⟨rfl,rfl,rfl⟩:=Value.slice.inj e1;obtain⟨rfl,rfl,rfl⟩:=Value.slice.inj e2;obtain⟨rfl,rfl,rfl⟩:=Value.slice.inj e3;obtain⟨rfl,rfl,rfl⟩:=Value.slice.inj e4;have hv:=aa (fun W (hb:Below w.heap.size w W)=>Calls.tb (b:=true) (pG vn val val (.slice x3 y3 z3) (.slice x4 y4 z4) (.slice uz3 vz3 tz3) (.slice uz4 vz4 tz4) W (hr.2.1.below hb) (Ic.2.1.below hb)) (by simp));have ml:maxLen=9223372036854775807:=rfl;clear ih hr Ic e1 e2 e3 e4;simp only at cm df bB br jN mc qr nR;have T0:=aa (JW.new w ⟨op,nm,nms,vn,val⟩ ⟨.slice x1 nms.length z1,.slice x2 l.length z2,.slice x3 y3 z3,.slice x4 y4 z4⟩ ⟨.slice uz1 nms.length tz1,.slice uz2 l.length tz2,.slice uz3 vz3 tz3,.slice uz4 vz4 tz4⟩);show Calls _ _ #[.agg (ecl ⟨op,nm,nms,vn,val⟩ _),.agg (ecl ⟨op,nm,nms,vn,val⟩ _)] _ _;unfold ecl at T0 ⊢;unfold aP at hv
  dsimp only at T0 hv ⊢
  go_enter func12,ntmps12;go_wp2_with(go_at_call 30;refine ak.out ?_)
  refine ak.mk ?_;refine(hv.out _ T0.out.below).mono ?_;rintro e w1 ⟨rfl,ai⟩;have T1:=aa (T0.out.then ai);clear ai T0 hv;go_wp2_with fail
  go_loopw [5] (fun i w'=>∃k:Nat,i=.int .i64 k/\k<=nms.length/\Hid (JW w ⟨op,nm,nms,vn,val⟩ ⟨.slice x1 nms.length z1,.slice x2 l.length z2,.slice x3 y3 z3,.slice x4 y4 z4⟩ ⟨.slice uz1 nms.length tz1,.slice uz2 l.length tz2,.slice uz3 vz3 tz3,.slice uz4 vz4 tz4⟩ w')) (fun i _=>nms.length-(intOf i).toNat)
  case atStart=>exact⟨0,rfl,Nat.zero_le _,T1.out⟩
  case round=>
   clear T1;obtain⟨k,rfl,No,H⟩:=hrel;have x0:=H.out.ba.cells;have y0:=H.out.bb.cells;by_cases aE:k<nms.length
   ·have bF:(k:Int)<(nms.length:Int):=by omega
    have cR:(k:Int)<9223372036854775807:=by omega
    obtain⟨b,o,c,he,cQ,gq,iE,hcell⟩:=hx.out.1.at k aE;have cy:=Value.slice.inj he;obtain⟨rfl,_,rfl⟩:=cy;clear he;have hcell:=(H.out.below.cell (p:=⟨b,o+k,none⟩) cQ).trans hcell;obtain⟨b',o',c',he,md,EG,EU,hcell'⟩:=hy.out.1.at k aE;have cy:=Value.slice.inj he;obtain⟨rfl,_,rfl⟩:=cy;clear he;have hcell':=(H.out.below.cell (p:=⟨b',o'+k,none⟩) md).trans hcell';obtain⟨s,hs⟩:∃s,nms[k]=s:=⟨_,rfl⟩
    simp only at hcell hcell';rw[hs]at hcell hcell';clear hs;go_wp2_with fail
    go_quiet (fail)
    go_wp2_with fail
    exact⟨⟨k+1,by go_num,by omega,H.out.then (nX af _)⟩,by simp[intOf];omega⟩
   have bF:¬((k:Int)<(nms.length:Int)):=by omega
   have T1:=H;clear H;go_wp2_with fail
   go_loopw [6] (fun i w'=>∃k:Nat,i=.int .i64 k/\k<=l.length/\Hid (JW w ⟨op,nm,nms,vn,val⟩ ⟨.slice x1 nms.length z1,.slice x2 l.length z2,.slice x3 y3 z3,.slice x4 y4 z4⟩ ⟨.slice uz1 nms.length tz1,.slice uz2 l.length tz2,.slice uz3 vz3 tz3,.slice uz4 vz4 tz4⟩ w')) (fun i _=>l.length-(intOf i).toNat)
   case atStart=>exact⟨0,rfl,Nat.zero_le _,T1.out⟩
   case round=>
    clear T1 x0 y0 bF No aE;obtain⟨k,rfl,No,H⟩:=hrel;have x0:=H.out.ba.cells;have y0:=H.out.bb.cells;by_cases aE:k<l.length
    ·have bF:(k:Int)<(l.length:Int):=by omega
     have cR:(k:Int)<9223372036854775807:=by omega
     obtain⟨b1,o1,f1,he,Tq,lm,WJ,q1,Po,LM⟩:=hx.out.tl.at k aE;have cy:=Value.slice.inj he;obtain⟨rfl,_,rfl⟩:=cy;clear he;obtain⟨b2,o2,f2,he,Tp,ni,WI,q2,nh,LL⟩:=hy.out.tl.at k aE;have cy:=Value.slice.inj he;obtain⟨rfl,_,rfl⟩:=cy;clear he;have Tm:=aa LM;have Tl:=aa LL;obtain⟨c1,c2,c3,c4,c5,c6,c7,c8,c9,c10,c11,c12,aK⟩:=LM.shape;subst aK;obtain⟨d1,d2,d3,d4,d5,d6,d7,d8,d9,d10,d11,d12,aK⟩:=LL.shape;subst aK;have r0:=bJ (am Po H.out.below Tq);have s0:=bJ (am nh H.out.below Tp);clear Po LM nh LL;have hcall:=aa (fun W (hW:Below wr.heap.size wr W)=>ih'.out l[k] _ _ W (Tm.out.below (ac H.out.below hW)) (Tl.out.below (ac H.out.below hW)));simp only at r0 s0 hcall;obtain⟨hp,Ns⟩:∃hp,ehd n l[k]=hp:=⟨_,rfl⟩
     rw[Ns]at r0 s0 hcall;clear Ns;simp only[ecl]at hcall;go_wp2_with fail
     go_region_law (first|(go_simp;go_at_call 12;refine(hcall.out _ (by repeat (first|exact af|refine rz ?_|refine nX ?_ _))).mono ?_;rintro e w3 ⟨rfl,ar⟩;have T3:Hid (Below wr.heap.size wr w3):=ac (by repeat (first|exact af|refine rz ?_|refine nX ?_ _)) ar;clear ar;dsimp only))
     all_goals
      go_simp
      go_wp2_with fail
      exact⟨⟨k+1,by go_num,by omega,H.out.then T3.out⟩,by simp[intOf];omega⟩
    have bF:¬((k:Int)<(l.length:Int)):=by omega
    go_wp2_with fail
    go_ret;exact⟨rfl,H.out.below⟩
end Lx
