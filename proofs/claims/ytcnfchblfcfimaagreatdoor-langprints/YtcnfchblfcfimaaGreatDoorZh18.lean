import Derived.Test.YtcnfchblfcfimaaGreatDoorZh16
set_option linter.all false
set_option maxHeartbeats 2000000
set_option maxRecDepth 1000000
namespace Go.Proofs.YtcnfchblfcfimaaGreatDoor
open Proofs.Tryz RowKit
theorem sd(s:ByteArray)(w:World)(hs:s.size<=512)(n:Bool)(wh fr:List UInt8)(pn:Bool)(pw:List UInt8)(h:dv (bl s)=some (n,wh,fr,pn,pw))(dL:¬fr.length=0):Calls prog 155 #[.string s] w fun e w'=>e=ji (cg n (bo wh++bo fr) (fU pn pw-fr.length))/\Below w.heap.size w w':=by
 obtain⟨a1,a2,a3,a4,a5,a6⟩:=fj h;rw[bl_length]at a5 a6;have hB:=aa (aV w false ⟨#[]⟩ 0);have h:=aa h;have a1:=aa a1;have a2:=aa a2;have a3:=aa a3;go_enter func155,ntmps155;go_wp2_with fail
 refine(iQ s _ (by omega)).mono ?_;rw[h.out];rintro e w1 ⟨rfl,ai⟩;have bO:=aa (hB.out.below ai (by simp));have hl:=bO.out.lt;have hb:=aa (ay ai);clear ai;simp only[cw,ch,if_true,Bool.false_eq_true,if_false];go_wp2_with fail
 obtain⟨W2,gf⟩:∃W2,(w1.alloc (.cells #[.bool n,.string (aj wh),.string (aj fr),.bool pn,.string (aj pw)] 169)).alloc (.cells Tryz.zeroCells172 172)=W2:=⟨_,rfl⟩
 rw[gf];have et:Hid (jX W2 (w1.heap.size+1) 172 (List.replicate 512 0)):=by show jX _ _ _ _;rw[<-gf,show w1.heap.size+1=(w1.alloc (.cells #[.bool n,.string (aj wh),.string (aj fr),.bool pn,.string (aj pw)] 169)).heap.size from by simp];exact pg _ _ 512 _ (by kernel_rfl)
 have zy:Hid (cI W2 w1.heap.size n (aj wh) (aj fr) pn (aj pw)):=by show cI _ _ _ _ _ _ _;rw[<-gf];exact(kp w1 n (aj wh) (aj fr) pn (aj pw)).alloc _
 have jR:Hid (iM W2 w.heap.size false ⟨#[]⟩ 0):=by show iM _ _ _ _ _;rw[<-gf];exact(bO.out.alloc _).alloc _
 have aq:Hid (Below w.heap.size w W2):=by show Below _ _ _;rw[<-gf];exact ab (ab hb.out)
 clear gf hb bO hB;obtain⟨p0,p1,p2,p3,p4,r0,r1,r2,r3,r4⟩:=zy.out.cells;have EM:=aa (jt wh);have Mj:=aa (jt fr);have iI:(bo wh).length=wh.length:=by simp[bo]
 have AU:(bo fr).length=fr.length:=by simp[bo]
 have Pm:=ag wh;have Jx:=ag fr;go_region_with(go_at_call 185;refine(oZ (w1.heap.size+1) 0 512 512 172 (List.replicate 512 0) (aj wh) W2.drew et.out.drew (by omega) (by simp) (by rw[ah];exact a1.out) (by simp)).mono ?_;rw[Pm,EM.out];rintro e W3 ⟨rfl,rm,kK⟩;have rm:=aa rm;have kK:=aa kK)
 have Fa:=aa (zy.out.drew.only kK.out (by omega));have iA:Hid (iM W3 w.heap.size false ⟨#[]⟩ 0):=iM.only (W:=W2.drew) jR.out kK.out (by omega);have ar:Hid (Below w.heap.size w W3):=aq.out.drew.trans (kK.out.below (by omega));have mr:w1.heap.size+1<W3.heap.size:=rm.out.lt;clear p0 p1 p2 p3 p4 r0 r1 r2 r3 r4 et zy jR aq kK;obtain⟨p0,p1,p2,p3,p4,r0,r1,r2,r3,r4⟩:=Fa.out.cells;have EO:Hid (pi (bo wh++bo fr)):=by
  intro d hd;rcases List.mem_append.1 hd with h|h
  ·exact du wh a1.out d h
  exact du fr a2.out d h
 have Uc:(wh.length:Int)<=512:=by omega
 have Pe:(0:Int)<=(wh.length:Int):=by omega
 have Pc:IntKind.i64.wrap (wh.length:Int)=wh.length:=by rw[IntKind.wrap_i64];omega
 have Pb:IntKind.i64.wrap ((wh.length:Int)+(fr.length:Int))=(wh.length:Int)+(fr.length:Int):=by rw[IntKind.wrap_i64];omega
 have AQ:IntKind.i64.wrap (fU pn pw-(fr.length:Int))=fU pn pw-(fr.length:Int):=by have:=eQ pn pw a3.out;rw[IntKind.wrap_i64];omega
 obtain⟨q3,dC⟩:∃q3,fX (List.replicate 512 0) 0 (bo wh)=q3:=⟨_,rfl⟩
 rw[dC]at rm;have hq3l:q3.length=512:=by rw[<-dC,gQ _ _ _ (by rw[List.length_replicate];omega),List.length_replicate]
 have dC:=aa dC;have hq3l:=aa hq3l;have QT:(wh.length:Int)<512:=by omega
 have Pd:¬512-wh.length=0:=by omega
 have f1:(aj fr).size<=512-wh.length:=by omega
 have f2:wh.length+(512-wh.length)<=q3.length:=by have:=hq3l.out;omega
 have f3:q3.length<=100000:=by have:=hq3l.out;omega
 have HC:=aa (oZ (w1.heap.size+1) wh.length (512-wh.length) (512-wh.length) 172 q3 (aj fr) W3.drew rm.out.drew f1 f2 (by rw[ah];exact a2.out) f3);clear f1 f2 f3;go_wp2_with fail
 go_region_with(go_at_call 185;go_fit HC.out;rw[Jx,Mj.out];rintro e W4 ⟨rfl,Gm,Cd⟩;have Gm:=aa Gm;have Cd:=aa Cd)
 clear HC;have tS:(wh.length:Int)+(fr.length:Int)<=512:=by omega
 have Wg:(0:Int)<=(wh.length:Int)+(fr.length:Int):=by omega
 have XC:((wh.length:Int)+(fr.length:Int)).toNat=wh.length+fr.length:=by omega
 have JH:=aa (Fa.out.drew.only Cd.out (by omega));have jQ:Hid (iM W4 w.heap.size false ⟨#[]⟩ 0):=iM.only (W:=W3.drew) iA.out Cd.out (by omega);have aO:Hid (Below w.heap.size w W4):=ar.out.drew.trans (Cd.out.below (by omega));clear Cd;have rh:w1.heap.size+1<W4.heap.size:=Gm.out.lt;clear p0 p1 p2 p3 p4 r0 r1 r2 r3 r4 rm Fa iA ar;obtain⟨p0,p1,p2,p3,p4,r0,r1,r2,r3,r4⟩:=JH.out.cells;obtain⟨Pu,Pt⟩:=eQ pn pw a3.out;have hcells:Hid (∀i (h:i<(bo wh++bo fr).length),W4.cell? ⟨w1.heap.size+1,0+i,none⟩=some (.int .u8 ((bo wh++bo fr)[i]:Nat))):=by
  show ∀i (h:i<(bo wh++bo fr).length),_;intro i hi;have Td:i<wh.length+fr.length:=by rw[List.length_append,iI,AU]at hi;exact hi
  have aL:(fX q3 wh.length (bo fr)).length=512:=by rw[gQ _ _ _ (by have:=hq3l.out;omega)];exact hq3l.out
  rw[Nat.zero_add,Gm.out.cell i (by omega)];have e:=pO (bo wh) (bo fr) 512 (by omega) i hi (by rw[iI,dC.out];omega);simp only[iI,dC.out]at e;rw[e]
 go_wp2_with fail
 have S4:Hid (IW w w1.heap.size n (aj wh) (aj fr) pn (aj pw) (bo wh++bo fr) W4):=⟨aO.out,JH.out,jQ.out,rh,hcells.out⟩
 have xq:(aj pw).size<=100000:=by rw[ag];omega
 have ve:=aa (ah pw);have Px:=aa (show bW (bl (aj pw))=true by rw[ah];exact a3.out);have oP:=aa (show(bo wh++bo fr).length=(wh.length+fr.length)by rw[List.length_append,iI,AU]);go_region_with(first|(go_at_call 187;go_fit(kn n (aj wh) (aj fr) pn (aj pw) W4.drew xq Px.out);rw[ve.out];rintro e W5 ⟨rfl,bg⟩;have S5:=aa (S4.out.drew.then bg);clear bg;obtain⟨u0,u1,u2,u3,u4,s0,s1,s2,s3,s4⟩:=S5.out.hp.cells)|(go_at_call 186;go_fit(qc n (w1.heap.size+1) 0 (wh.length+fr.length) 512 (bo wh++bo fr) (fU pn pw-fr.length) W5 oP.out (by omega) (by omega) (by omega) (by omega) S5.out.hz S5.out.hc (by omega) (by omega) EO.out);rintro e W6 ⟨rfl,da⟩;obtain⟨fb,fs,fx,fe,fA⟩:∃fb fs fx fe,cg n (bo wh++bo fr) (fU pn pw-fr.length)=(fb,fs,fx,fe):=⟨_,_,_,_,rfl⟩;rw[fA];have fA:=aa fA;have S6:=aa (S5.out.then da);clear da;obtain⟨d20,d21,d22,g20,g21,g22⟩:=S6.out.hb.cells;simp only[ji]))
 all_goals
  go_wp2;refine bodyPost_ret (v:=.tuple #[.agg #[.bool fb,.string fs,.int .i64 fx],.int .i64 fe]) (by simp[results,Tryz.results155,go_sem,d20,d21,d22]) rfl ⟨by rw[fA.out];rfl,?_⟩;exact((S6.out.below.setCell (Nat.le_refl _) _).setCell (Nat.le_refl _) _).setCell (Nat.le_refl _) _
theorem si(s:ByteArray)(w:World)(hs:s.size<=512)(n:Bool)(wh fr:List UInt8)(pn:Bool)(pw:List UInt8)(h:dv (bl s)=some (n,wh,fr,pn,pw))(dL:fr.length=0)(hw5:wh.length<512):Calls prog 155 #[.string s] w fun e w'=>e=ji (cg n (bo wh++bo fr) (fU pn pw-fr.length))/\Below w.heap.size w w':=by
 obtain⟨a1,a2,a3,a4,a5,a6⟩:=fj h;rw[bl_length]at a5 a6;have hB:=aa (aV w false ⟨#[]⟩ 0);have h:=aa h;have a1:=aa a1;have a2:=aa a2;have a3:=aa a3;go_enter func155,ntmps155;go_wp2_with fail
 refine(iQ s _ (by omega)).mono ?_;rw[h.out];rintro e w1 ⟨rfl,ai⟩;have bO:=aa (hB.out.below ai (by simp));have hl:=bO.out.lt;have hb:=aa (ay ai);clear ai;simp only[cw,ch,if_true,Bool.false_eq_true,if_false];go_wp2_with fail
 obtain⟨W2,gf⟩:∃W2,(w1.alloc (.cells #[.bool n,.string (aj wh),.string (aj fr),.bool pn,.string (aj pw)] 169)).alloc (.cells Tryz.zeroCells172 172)=W2:=⟨_,rfl⟩
 rw[gf];have et:Hid (jX W2 (w1.heap.size+1) 172 (List.replicate 512 0)):=by show jX _ _ _ _;rw[<-gf,show w1.heap.size+1=(w1.alloc (.cells #[.bool n,.string (aj wh),.string (aj fr),.bool pn,.string (aj pw)] 169)).heap.size from by simp];exact pg _ _ 512 _ (by kernel_rfl)
 have zy:Hid (cI W2 w1.heap.size n (aj wh) (aj fr) pn (aj pw)):=by show cI _ _ _ _ _ _ _;rw[<-gf];exact(kp w1 n (aj wh) (aj fr) pn (aj pw)).alloc _
 have jR:Hid (iM W2 w.heap.size false ⟨#[]⟩ 0):=by show iM _ _ _ _ _;rw[<-gf];exact(bO.out.alloc _).alloc _
 have aq:Hid (Below w.heap.size w W2):=by show Below _ _ _;rw[<-gf];exact ab (ab hb.out)
 clear gf hb bO hB;obtain⟨p0,p1,p2,p3,p4,r0,r1,r2,r3,r4⟩:=zy.out.cells;have EM:=aa (jt wh);have Mj:=aa (jt fr);have iI:(bo wh).length=wh.length:=by simp[bo]
 have AU:(bo fr).length=fr.length:=by simp[bo]
 have Pm:=ag wh;have Jx:=ag fr;go_region_with(go_at_call 185;refine(oZ (w1.heap.size+1) 0 512 512 172 (List.replicate 512 0) (aj wh) W2.drew et.out.drew (by omega) (by simp) (by rw[ah];exact a1.out) (by simp)).mono ?_;rw[Pm,EM.out];rintro e W3 ⟨rfl,rm,kK⟩;have rm:=aa rm;have kK:=aa kK)
 have Fa:=aa (zy.out.drew.only kK.out (by omega));have iA:Hid (iM W3 w.heap.size false ⟨#[]⟩ 0):=iM.only (W:=W2.drew) jR.out kK.out (by omega);have ar:Hid (Below w.heap.size w W3):=aq.out.drew.trans (kK.out.below (by omega));have mr:w1.heap.size+1<W3.heap.size:=rm.out.lt;clear p0 p1 p2 p3 p4 r0 r1 r2 r3 r4 et zy jR aq kK;obtain⟨p0,p1,p2,p3,p4,r0,r1,r2,r3,r4⟩:=Fa.out.cells;have EO:Hid (pi (bo wh++bo fr)):=by
  intro d hd;rcases List.mem_append.1 hd with h|h
  ·exact du wh a1.out d h
  exact du fr a2.out d h
 have Uc:(wh.length:Int)<=512:=by omega
 have Pe:(0:Int)<=(wh.length:Int):=by omega
 have Pc:IntKind.i64.wrap (wh.length:Int)=wh.length:=by rw[IntKind.wrap_i64];omega
 have Pb:IntKind.i64.wrap ((wh.length:Int)+(fr.length:Int))=(wh.length:Int)+(fr.length:Int):=by rw[IntKind.wrap_i64];omega
 have AQ:IntKind.i64.wrap (fU pn pw-(fr.length:Int))=fU pn pw-(fr.length:Int):=by have:=eQ pn pw a3.out;rw[IntKind.wrap_i64];omega
 obtain⟨q3,dC⟩:∃q3,fX (List.replicate 512 0) 0 (bo wh)=q3:=⟨_,rfl⟩
 rw[dC]at rm;have hq3l:q3.length=512:=by rw[<-dC,gQ _ _ _ (by rw[List.length_replicate];omega),List.length_replicate]
 have dC:=aa dC;have hq3l:=aa hq3l;have xC:=aa dL;clear dL;have QT:(wh.length:Int)<512:=by omega
 have Pd:¬512-wh.length=0:=by omega
 go_wp2_with fail
 go_region_with(go_at_call 185;go_fit(uU _ (aj fr) W3.drew (by rw[Jx];exact xC.out));rintro e W4 ⟨rfl,rfl⟩)
 have Gm:Hid (jX W3.drew (w1.heap.size+1) 172 (fX q3 wh.length (bo fr))):=by show jX _ _ _ _;rw[List.eq_nil_of_length_eq_zero (AU.trans xC.out),uV];exact rm.out.drew
 have JH:=aa Fa.out.drew;have jQ:Hid (iM W3.drew w.heap.size false ⟨#[]⟩ 0):=iA.out;have aO:=aa ar.out.drew;have rh:w1.heap.size+1<W3.drew.heap.size:=Gm.out.lt;clear p0 p1 p2 p3 p4 r0 r1 r2 r3 r4 rm Fa iA ar;obtain⟨p0,p1,p2,p3,p4,r0,r1,r2,r3,r4⟩:=JH.out.cells;obtain⟨Pu,Pt⟩:=eQ pn pw a3.out;have hcells:Hid (∀i (h:i<(bo wh++bo fr).length),W3.drew.cell? ⟨w1.heap.size+1,0+i,none⟩=some (.int .u8 ((bo wh++bo fr)[i]:Nat))):=by
  show ∀i (h:i<(bo wh++bo fr).length),_;intro i hi;have Td:i<wh.length+fr.length:=by rw[List.length_append,iI,AU]at hi;exact hi
  have aL:(fX q3 wh.length (bo fr)).length=512:=by rw[gQ _ _ _ (by have:=hq3l.out;omega)];exact hq3l.out
  rw[Nat.zero_add,Gm.out.cell i (by omega)];have e:=pO (bo wh) (bo fr) 512 (by omega) i hi (by rw[iI,dC.out];omega);simp only[iI,dC.out]at e;rw[e]
 go_wp2_with fail
 have S4:Hid (IW w w1.heap.size n (aj wh) (aj fr) pn (aj pw) (bo wh++bo fr) W3.drew):=⟨aO.out,JH.out,jQ.out,rh,hcells.out⟩
 have xq:(aj pw).size<=100000:=by rw[ag];omega
 have ve:=aa (ah pw);have Px:=aa (show bW (bl (aj pw))=true by rw[ah];exact a3.out);have oP:=aa (show(bo wh++bo fr).length=wh.length by rw[List.length_append,iI,AU];have:=xC.out;omega);go_region_with(first|(go_at_call 187;go_fit(kn n (aj wh) (aj fr) pn (aj pw) W3.drew.drew xq Px.out);rw[ve.out];rintro e W5 ⟨rfl,bg⟩;have S5:=aa (S4.out.drew.then bg);clear bg;obtain⟨u0,u1,u2,u3,u4,s0,s1,s2,s3,s4⟩:=S5.out.hp.cells)|(go_at_call 186;go_fit(qc n (w1.heap.size+1) 0 wh.length 512 (bo wh++bo fr) (fU pn pw-fr.length) W5 oP.out (by omega) (by omega) (by omega) (by omega) S5.out.hz S5.out.hc (by omega) (by omega) EO.out);rintro e W6 ⟨rfl,da⟩;obtain⟨fb,fs,fx,fe,fA⟩:∃fb fs fx fe,cg n (bo wh++bo fr) (fU pn pw-fr.length)=(fb,fs,fx,fe):=⟨_,_,_,_,rfl⟩;rw[fA];have fA:=aa fA;have S6:=aa (S5.out.then da);clear da;obtain⟨d20,d21,d22,g20,g21,g22⟩:=S6.out.hb.cells;simp only[ji]))
 all_goals
  go_wp2;refine bodyPost_ret (v:=.tuple #[.agg #[.bool fb,.string fs,.int .i64 fx],.int .i64 fe]) (by simp[results,Tryz.results155,go_sem,d20,d21,d22]) rfl ⟨by rw[fA.out];rfl,?_⟩;exact((S6.out.below.setCell (Nat.le_refl _) _).setCell (Nat.le_refl _) _).setCell (Nat.le_refl _) _
