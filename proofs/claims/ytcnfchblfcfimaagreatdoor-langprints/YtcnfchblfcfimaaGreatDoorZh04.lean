import Derived.Test.YtcnfchblfcfimaaGreatDoorZh00
set_option linter.all false
set_option maxHeartbeats 4000000
namespace Go.Proofs.YtcnfchblfcfimaaGreatDoor
open Proofs.Tryz RowKit
theorem mI(s:ByteArray)(w:World)(hs:s.size<=100000)(cP:1<((aC 45 (bl s)).takeWhile isDig).length/\((aC 45 (bl s)).takeWhile isDig).head?≠some 48)(dD:dV 46 ((aC 45 (bl s)).dropWhile isDig)=false)(hL:((aC 45 (bl s)).dropWhile isDig)=[]):Calls prog 184 #[.string s] w fun e w'=>e=cw (aY (dV 45 (bl s)) ((aC 45 (bl s)).takeWhile isDig) [] ((aC 45 (bl s)).dropWhile isDig))/\Below w.heap.size w w':=by
 have ml:maxLen=2^63-1:=rfl;have HT:=aa (cr w false ⟨#[]⟩ ⟨#[]⟩ false ⟨#[]⟩ false ⟨#[]⟩ ⟨#[]⟩ false ⟨#[]⟩);have q1:=aG 45 (bl s);rw[bl_length]at q1;have q2:=az (aC 45 (bl s));have q3:=aB (aC 45 (bl s));obtain⟨n,hn⟩:∃n,dV 45 (bl s)=n:=⟨_,rfl⟩
 obtain⟨l1,aJ⟩:∃l1,aC 45 (bl s)=l1:=⟨_,rfl⟩
 rw[aJ]at q1 q2 q3;obtain⟨wh,bR⟩:∃wh,l1.takeWhile isDig=wh:=⟨_,rfl⟩
 obtain⟨l2,bq⟩:∃l2,l1.dropWhile isDig=l2:=⟨_,rfl⟩
 rw[bR]at q2;rw[bq]at q3;rw[aJ,bR]at cP;rw[hn,aJ,bR,bq];rw[aJ,bq]at dD hL;have q6:l2.length<=100000:=by omega
 have sK:(aj wh).toList.isEmpty=false:=by rw[aN];cases wh with|nil=>simp at cP|cons _ _=>rfl
 have aT:(1:Int)<(aj wh).size:=by rw[ag];omega
 have ia:0<(aj wh).size:=by rw[ag];omega
 have gi:(((aj wh)[0].toNat:Int)==48)=false:=by
  have:=dQ (aj wh) ia;rw[ah]at this;rw[beq_eq_false_iff_ne];intro e;apply cP.2;rw[this]
  congr 1
  exact UInt8.toNat_inj.1 (by have:(48:UInt8).toNat=48:=rfl;omega)
 have hn:=aa hn;have aJ:=aa aJ;have bR:=aa bR;have bq:=aa bq;have ew:=aa dD;clear cP dD;obtain⟨sB,cj⟩:∃sB,aj l2=sB:=⟨_,rfl⟩
 have cC:sB.size<=100000:=by rw[<-cj,ag];omega
 have kD:=aa (show bl sB=l2 by rw[<-cj,ah]);have ow:sB.toList.isEmpty=true:=by rw[<-cj,aN,hL];rfl
 rw[hL];have cj:=aa cj;have hL:=aa hL;go_enter func184,ntmps184;go_wp2_with fail
 refine(ax s 45 _ _ rfl (by omega)).mono ?_;rw[hn.out,aJ.out];rintro e w1 ⟨rfl,ai⟩;have H1:=aa (HT.out.then ai);clear HT ai;obtain⟨c0,c1,c2,c3,c4,f0,f1,f2,f3,f4⟩:=H1.out.b1.cells;go_wp2_with fail
 refine(aD (aj l1) _ (by rw[ag];omega)).mono ?_;rw[ah,bR.out,bq.out,cj.out];rintro e w2 ⟨rfl,aq⟩;have H2:Hid (bA w w2 false ⟨#[]⟩ ⟨#[]⟩ false ⟨#[]⟩ n ⟨#[]⟩ ⟨#[]⟩ false ⟨#[]⟩):=by
  have h:=H1.out;have h':bA w (w1.setCell ⟨w.heap.size+1,0,none⟩ (.bool n)) false ⟨#[]⟩ ⟨#[]⟩ false ⟨#[]⟩ n ⟨#[]⟩ ⟨#[]⟩ false ⟨#[]⟩:=⟨ao h.below (by omega),h.b0.other (by omega),h.b1.set0⟩
  exact h'.then aq
 clear H1 aq c0 c1 c2 c3 c4 f0 f1 f2 f3 f4;obtain⟨c0,c1,c2,c3,c4,f0,f1,f2,f3,f4⟩:=H2.out.b1.cells;obtain⟨d0,d1,d2,d3,d4,g0,g1,g2,g3,g4⟩:=H2.out.b0.cells;go_wp2_with fail
 refine(ax sB 46 _ _ rfl (by omega)).mono ?_;rw[kD.out,ew.out,jZ ew.out,cj.out];rintro e w3 ⟨rfl,ar⟩;have H3:Hid (bA w w3 false ⟨#[]⟩ ⟨#[]⟩ false ⟨#[]⟩ n (aj wh) ⟨#[]⟩ false ⟨#[]⟩):=by
  have h:=H2.out;have h':bA w (w2.setCell ⟨w.heap.size+1,1,none⟩ (.string (aj wh))) false ⟨#[]⟩ ⟨#[]⟩ false ⟨#[]⟩ n (aj wh) ⟨#[]⟩ false ⟨#[]⟩:=⟨ao h.below (by omega),h.b0.other (by omega),h.b1.set1⟩
  exact h'.then ar
 clear H2 ar c0 c1 c2 c3 c4 f0 f1 f2 f3 f4 d0 d1 d2 d3 d4 g0 g1 g2 g3 g4;obtain⟨c0,c1,c2,c3,c4,f0,f1,f2,f3,f4⟩:=H3.out.b1.cells;obtain⟨d0,d1,d2,d3,d4,g0,g1,g2,g3,g4⟩:=H3.out.b0.cells;go_wp2;refine bodyPost_ret (v:=.tuple #[.agg #[.bool n,.string (aj wh),.string ⟨#[]⟩,.bool false,.string ⟨#[]⟩],.bool true]) (by simp[results,Tryz.results184,go_sem,d0,d1,d2,d3,d4]) rfl ⟨rfl,?_⟩;iterate 5 refine ao ?_ (by omega)
 exact H3.out.below
theorem mJ(s:ByteArray)(w:World)(hs:s.size<=100000)(cP:1<((aC 45 (bl s)).takeWhile isDig).length/\((aC 45 (bl s)).takeWhile isDig).head?≠some 48)(dD:dV 46 ((aC 45 (bl s)).dropWhile isDig)=false)(c:UInt8)(r:List UInt8)(hL:((aC 45 (bl s)).dropWhile isDig)=c::r)(bB:c≠101)(br:c≠69):Calls prog 184 #[.string s] w fun e w'=>e=cw (aY (dV 45 (bl s)) ((aC 45 (bl s)).takeWhile isDig) [] ((aC 45 (bl s)).dropWhile isDig))/\Below w.heap.size w w':=by
 have ml:maxLen=2^63-1:=rfl;have HT:=aa (cr w false ⟨#[]⟩ ⟨#[]⟩ false ⟨#[]⟩ false ⟨#[]⟩ ⟨#[]⟩ false ⟨#[]⟩);have q1:=aG 45 (bl s);rw[bl_length]at q1;have q2:=az (aC 45 (bl s));have q3:=aB (aC 45 (bl s));obtain⟨n,hn⟩:∃n,dV 45 (bl s)=n:=⟨_,rfl⟩
 obtain⟨l1,aJ⟩:∃l1,aC 45 (bl s)=l1:=⟨_,rfl⟩
 rw[aJ]at q1 q2 q3;obtain⟨wh,bR⟩:∃wh,l1.takeWhile isDig=wh:=⟨_,rfl⟩
 obtain⟨l2,bq⟩:∃l2,l1.dropWhile isDig=l2:=⟨_,rfl⟩
 rw[bR]at q2;rw[bq]at q3;rw[aJ,bR]at cP;rw[hn,aJ,bR,bq];rw[aJ,bq]at dD hL;have q6:l2.length<=100000:=by omega
 have sK:(aj wh).toList.isEmpty=false:=by rw[aN];cases wh with|nil=>simp at cP|cons _ _=>rfl
 have aT:(1:Int)<(aj wh).size:=by rw[ag];omega
 have ia:0<(aj wh).size:=by rw[ag];omega
 have gi:(((aj wh)[0].toNat:Int)==48)=false:=by
  have:=dQ (aj wh) ia;rw[ah]at this;rw[beq_eq_false_iff_ne];intro e;apply cP.2;rw[this]
  congr 1
  exact UInt8.toNat_inj.1 (by have:(48:UInt8).toNat=48:=rfl;omega)
 have hn:=aa hn;have aJ:=aa aJ;have bR:=aa bR;have bq:=aa bq;have ew:=aa dD;clear cP dD;obtain⟨sB,cj⟩:∃sB,aj l2=sB:=⟨_,rfl⟩
 have cC:sB.size<=100000:=by rw[<-cj,ag];omega
 have kD:=aa (show bl sB=l2 by rw[<-cj,ah]);have ow:sB.toList.isEmpty=false:=by rw[<-cj,aN,hL];rfl
 have ll:0<sB.size:=by rw[<-cj,ag,hL];simp
 have xp:(0:Int)<sB.size:=by omega
 have LF:(1:Int)<=sB.size:=by omega
 have iY:sB[0]=c:=by subst cj;simp only[hL];exact bG c r (by rw[ag];simp)
 have LH:r.length<=100000:=by
  have e':l2.length=r.length+1:=by rw[hL];rfl
  omega
 have eW:=aa (show sB.extract 1 sB.size=aj r by rw[bd,<-cj,ah,hL];rfl);have hT:=aa (show cw (aY n wh [] l2)=ch false false ⟨#[]⟩ ⟨#[]⟩ false ⟨#[]⟩by rw[hL];unfold aY;simp[bB,br];rfl);have ai:((sB[0].toNat:Int) != 101)=true:=by rw[bne_iff_ne,iY];intro e;exact bB (UInt8.toNat_inj.1 (by have:(101:UInt8).toNat=101:=rfl;omega))
 have aq:((sB[0].toNat:Int) != 69)=true:=by rw[bne_iff_ne,iY];intro e;exact br (UInt8.toNat_inj.1 (by have:(69:UInt8).toNat=69:=rfl;omega))
 clear iY bB br;have cj:=aa cj;have hL:=aa hL;go_enter func184,ntmps184;go_wp2_with fail
 refine(ax s 45 _ _ rfl (by omega)).mono ?_;rw[hn.out,aJ.out];rintro e w1 ⟨rfl,ai⟩;have H1:=aa (HT.out.then ai);clear HT ai;obtain⟨c0,c1,c2,c3,c4,f0,f1,f2,f3,f4⟩:=H1.out.b1.cells;go_wp2_with fail
 refine(aD (aj l1) _ (by rw[ag];omega)).mono ?_;rw[ah,bR.out,bq.out,cj.out];rintro e w2 ⟨rfl,aq⟩;have H2:Hid (bA w w2 false ⟨#[]⟩ ⟨#[]⟩ false ⟨#[]⟩ n ⟨#[]⟩ ⟨#[]⟩ false ⟨#[]⟩):=by
  have h:=H1.out;have h':bA w (w1.setCell ⟨w.heap.size+1,0,none⟩ (.bool n)) false ⟨#[]⟩ ⟨#[]⟩ false ⟨#[]⟩ n ⟨#[]⟩ ⟨#[]⟩ false ⟨#[]⟩:=⟨ao h.below (by omega),h.b0.other (by omega),h.b1.set0⟩
  exact h'.then aq
 clear H1 aq c0 c1 c2 c3 c4 f0 f1 f2 f3 f4;obtain⟨c0,c1,c2,c3,c4,f0,f1,f2,f3,f4⟩:=H2.out.b1.cells;obtain⟨d0,d1,d2,d3,d4,g0,g1,g2,g3,g4⟩:=H2.out.b0.cells;go_wp2_with fail
 refine(ax sB 46 _ _ rfl (by omega)).mono ?_;rw[kD.out,ew.out,jZ ew.out,cj.out];rintro e w3 ⟨rfl,ar⟩;have H3:Hid (bA w w3 false ⟨#[]⟩ ⟨#[]⟩ false ⟨#[]⟩ n (aj wh) ⟨#[]⟩ false ⟨#[]⟩):=by
  have h:=H2.out;have h':bA w (w2.setCell ⟨w.heap.size+1,1,none⟩ (.string (aj wh))) false ⟨#[]⟩ ⟨#[]⟩ false ⟨#[]⟩ n (aj wh) ⟨#[]⟩ false ⟨#[]⟩:=⟨ao h.below (by omega),h.b0.other (by omega),h.b1.set1⟩
  exact h'.then ar
 clear H2 ar c0 c1 c2 c3 c4 f0 f1 f2 f3 f4 d0 d1 d2 d3 d4 g0 g1 g2 g3 g4;obtain⟨c0,c1,c2,c3,c4,f0,f1,f2,f3,f4⟩:=H3.out.b1.cells;obtain⟨d0,d1,d2,d3,d4,g0,g1,g2,g3,g4⟩:=H3.out.b0.cells;go_wp2;refine bodyPost_ret (v:=.tuple #[.agg #[.bool false,.string ⟨#[]⟩,.string ⟨#[]⟩,.bool false,.string ⟨#[]⟩],.bool false]) (by simp[results,Tryz.results184,go_sem,d0,d1,d2,d3,d4]) rfl ⟨by rw[hT.out];rfl,?_⟩;iterate 5 refine ao ?_ (by omega)
 exact H3.out.below
theorem jz(s:ByteArray)(w:World)(hs:s.size<=100000)(cP:1<((aC 45 (bl s)).takeWhile isDig).length/\((aC 45 (bl s)).takeWhile isDig).head?≠some 48)(dD:dV 46 ((aC 45 (bl s)).dropWhile isDig)=false)(c:UInt8)(r:List UInt8)(hL:((aC 45 (bl s)).dropWhile isDig)=c::r)(hc:c=101\/c=69):Calls prog 184 #[.string s] w fun e w'=>e=cw (aY (dV 45 (bl s)) ((aC 45 (bl s)).takeWhile isDig) [] ((aC 45 (bl s)).dropWhile isDig))/\Below w.heap.size w w':=by
 have ml:maxLen=2^63-1:=rfl;have HT:=aa (cr w false ⟨#[]⟩ ⟨#[]⟩ false ⟨#[]⟩ false ⟨#[]⟩ ⟨#[]⟩ false ⟨#[]⟩);have q1:=aG 45 (bl s);rw[bl_length]at q1;have q2:=az (aC 45 (bl s));have q3:=aB (aC 45 (bl s));obtain⟨n,hn⟩:∃n,dV 45 (bl s)=n:=⟨_,rfl⟩
 obtain⟨l1,aJ⟩:∃l1,aC 45 (bl s)=l1:=⟨_,rfl⟩
 rw[aJ]at q1 q2 q3;obtain⟨wh,bR⟩:∃wh,l1.takeWhile isDig=wh:=⟨_,rfl⟩
 obtain⟨l2,bq⟩:∃l2,l1.dropWhile isDig=l2:=⟨_,rfl⟩
 rw[bR]at q2;rw[bq]at q3;rw[aJ,bR]at cP;rw[hn,aJ,bR,bq];rw[aJ,bq]at dD hL;have q6:l2.length<=100000:=by omega
 have sK:(aj wh).toList.isEmpty=false:=by rw[aN];cases wh with|nil=>simp at cP|cons _ _=>rfl
 have aT:(1:Int)<(aj wh).size:=by rw[ag];omega
 have ia:0<(aj wh).size:=by rw[ag];omega
 have gi:(((aj wh)[0].toNat:Int)==48)=false:=by
  have:=dQ (aj wh) ia;rw[ah]at this;rw[beq_eq_false_iff_ne];intro e;apply cP.2;rw[this]
  congr 1
  exact UInt8.toNat_inj.1 (by have:(48:UInt8).toNat=48:=rfl;omega)
 have hn:=aa hn;have aJ:=aa aJ;have bR:=aa bR;have bq:=aa bq;have ew:=aa dD;clear cP dD;obtain⟨sB,cj⟩:∃sB,aj l2=sB:=⟨_,rfl⟩
 have cC:sB.size<=100000:=by rw[<-cj,ag];omega
 have kD:=aa (show bl sB=l2 by rw[<-cj,ah]);have ow:sB.toList.isEmpty=false:=by rw[<-cj,aN,hL];rfl
 have ll:0<sB.size:=by rw[<-cj,ag,hL];simp
 have xp:(0:Int)<sB.size:=by omega
 have LF:(1:Int)<=sB.size:=by omega
 have iY:sB[0]=c:=by subst cj;simp only[hL];exact bG c r (by rw[ag];simp)
 have LH:r.length<=100000:=by
  have e':l2.length=r.length+1:=by rw[hL];rfl
  omega
 have eW:=aa (show sB.extract 1 sB.size=aj r by rw[bd,<-cj,ah,hL];rfl);obtain⟨so,sM⟩:∃so,jg r=so:=⟨_,rfl⟩
 have hT:=aa (show cw (aY n wh [] l2)=(bif so then ch true n (aj wh) ⟨#[]⟩ (fC r) (aj (gm r)) else ch false false ⟨#[]⟩ ⟨#[]⟩ false ⟨#[]⟩)by rw[hL];unfold aY;rcases hc with q|q<;>cases so<;>simp[q,sM]<;>rfl)
 have gd:(((sB[0].toNat:Int) != 101)=false)\/(((sB[0].toNat:Int) != 101)=true/\((sB[0].toNat:Int) != 69)=false):=by
  rcases hc with q|q
  ·rw[iY,q];exact Or.inl rfl
  rw[iY,q];exact Or.inr ⟨rfl,rfl⟩
 clear iY hc;have sM:=aa sM;have cj:=aa cj;have hL:=aa hL;have SP:=aa (fun W=>fh n (aj wh) ⟨#[]⟩ ⟨#[]⟩ (sB.extract 1 sB.size) W (by rw[eW.out,ag];omega) so (by rw[eW.out,ah];exact sM.out));rcases gd with ai|⟨ai,aq⟩<;>cases so
 all_goals
  go_enter func184,ntmps184;go_wp2_with fail
  refine(ax s 45 _ _ rfl (by omega)).mono ?_;rw[hn.out,aJ.out];rintro e w1 ⟨rfl,ai⟩;have H1:=aa (HT.out.then ai);clear HT ai;obtain⟨c0,c1,c2,c3,c4,f0,f1,f2,f3,f4⟩:=H1.out.b1.cells;go_wp2_with fail
  refine(aD (aj l1) _ (by rw[ag];omega)).mono ?_;rw[ah,bR.out,bq.out,cj.out];rintro e w2 ⟨rfl,aq⟩;have H2:Hid (bA w w2 false ⟨#[]⟩ ⟨#[]⟩ false ⟨#[]⟩ n ⟨#[]⟩ ⟨#[]⟩ false ⟨#[]⟩):=by
   have h:=H1.out;have h':bA w (w1.setCell ⟨w.heap.size+1,0,none⟩ (.bool n)) false ⟨#[]⟩ ⟨#[]⟩ false ⟨#[]⟩ n ⟨#[]⟩ ⟨#[]⟩ false ⟨#[]⟩:=⟨ao h.below (by omega),h.b0.other (by omega),h.b1.set0⟩
   exact h'.then aq
  clear H1 aq c0 c1 c2 c3 c4 f0 f1 f2 f3 f4;obtain⟨c0,c1,c2,c3,c4,f0,f1,f2,f3,f4⟩:=H2.out.b1.cells;obtain⟨d0,d1,d2,d3,d4,g0,g1,g2,g3,g4⟩:=H2.out.b0.cells;go_wp2_with fail
  refine(ax sB 46 _ _ rfl (by omega)).mono ?_;rw[kD.out,ew.out,jZ ew.out,cj.out];rintro e w3 ⟨rfl,ar⟩;have H3:Hid (bA w w3 false ⟨#[]⟩ ⟨#[]⟩ false ⟨#[]⟩ n (aj wh) ⟨#[]⟩ false ⟨#[]⟩):=by
   have h:=H2.out;have h':bA w (w2.setCell ⟨w.heap.size+1,1,none⟩ (.string (aj wh))) false ⟨#[]⟩ ⟨#[]⟩ false ⟨#[]⟩ n (aj wh) ⟨#[]⟩ false ⟨#[]⟩:=⟨ao h.below (by omega),h.b0.other (by omega),h.b1.set1⟩
   exact h'.then ar
  clear H2 ar c0 c1 c2 c3 c4 f0 f1 f2 f3 f4 d0 d1 d2 d3 d4 g0 g1 g2 g3 g4;obtain⟨c0,c1,c2,c3,c4,f0,f1,f2,f3,f4⟩:=H3.out.b1.cells;obtain⟨d0,d1,d2,d3,d4,g0,g1,g2,g3,g4⟩:=H3.out.b0.cells;have HW:Hid (bA w w3.drew false ⟨#[]⟩ ⟨#[]⟩ false ⟨#[]⟩ n (aj wh) ⟨#[]⟩ false ⟨#[]⟩):=H3.out.drew;go_wp2_with fail
  go_region_with(go_at_call 211;refine(SP.out _).mono ?_;rw[eW.out,ah];rintro e w5 ⟨rfl,bg⟩;have H5:=aa (HW.out.then bg);clear bg;obtain⟨e0,e1,e2,e3,e4,k0,k1,k2,k3,k4⟩:=H5.out.b0.cells;simp only[ch,if_true,Bool.false_eq_true,if_false])
  all_goals
   go_wp2
   first|refine bodyPost_ret (v:=.tuple #[.agg #[.bool n,.string (aj wh),.string ⟨#[]⟩,.bool (fC r),.string (aj (gm r))],.bool true]) (by simp[results,Tryz.results184,go_sem,e0,e1,e2,e3,e4]) rfl ⟨by rw[hT.out];rfl,?_⟩|refine bodyPost_ret (v:=.tuple #[.agg #[.bool false,.string ⟨#[]⟩,.string ⟨#[]⟩,.bool false,.string ⟨#[]⟩],.bool false]) (by simp[results,Tryz.results184,go_sem,e0,e1,e2,e3,e4]) rfl ⟨by rw[hT.out];rfl,?_⟩
   iterate 5 refine ao ?_ (by omega)
   exact H5.out.below
theorem mG(s:ByteArray)(w:World)(hs:s.size<=100000)(cP:1<((aC 45 (bl s)).takeWhile isDig).length/\((aC 45 (bl s)).takeWhile isDig).head?≠some 48)(dD:dV 46 ((aC 45 (bl s)).dropWhile isDig)=true)(dL:((aC 46 ((aC 45 (bl s)).dropWhile isDig)).takeWhile isDig).isEmpty=false)(hL:((aC 46 ((aC 45 (bl s)).dropWhile isDig)).dropWhile isDig)=[]):Calls prog 184 #[.string s] w fun e w'=>e=cw (aY (dV 45 (bl s)) ((aC 45 (bl s)).takeWhile isDig) ((aC 46 ((aC 45 (bl s)).dropWhile isDig)).takeWhile isDig) ((aC 46 ((aC 45 (bl s)).dropWhile isDig)).dropWhile isDig))/\Below w.heap.size w w':=by
 have ml:maxLen=2^63-1:=rfl;have HT:=aa (cr w false ⟨#[]⟩ ⟨#[]⟩ false ⟨#[]⟩ false ⟨#[]⟩ ⟨#[]⟩ false ⟨#[]⟩);have q1:=aG 45 (bl s);rw[bl_length]at q1;have q2:=az (aC 45 (bl s));have q3:=aB (aC 45 (bl s));obtain⟨n,hn⟩:∃n,dV 45 (bl s)=n:=⟨_,rfl⟩
 obtain⟨l1,aJ⟩:∃l1,aC 45 (bl s)=l1:=⟨_,rfl⟩
 rw[aJ]at q1 q2 q3;obtain⟨wh,bR⟩:∃wh,l1.takeWhile isDig=wh:=⟨_,rfl⟩
 obtain⟨l2,bq⟩:∃l2,l1.dropWhile isDig=l2:=⟨_,rfl⟩
 rw[bR]at q2;rw[bq]at q3;rw[aJ,bR]at cP;rw[hn,aJ,bR,bq];rw[aJ,bq]at dD hL;rw[aJ,bq]at dL;have q4:=aG 46 l2;have q5:=az (aC 46 l2);have q6:=aB (aC 46 l2);obtain⟨l3,iX⟩:∃l3,aC 46 l2=l3:=⟨_,rfl⟩
 obtain⟨fr,cO⟩:∃fr,(aC 46 l2).takeWhile isDig=fr:=⟨_,rfl⟩
 obtain⟨l4,ig⟩:∃l4,(aC 46 l2).dropWhile isDig=l4:=⟨_,rfl⟩
 rw[cO]at dL q5 ⊢;rw[ig]at q6 hL ⊢;rw[iX]at cO ig q4 q5 q6;have vj:(aj fr).toList.isEmpty=false:=by rw[aN];exact dL
 have iX:=aa iX;have cO:=aa cO;have ig:=aa ig;have sK:(aj wh).toList.isEmpty=false:=by rw[aN];cases wh with|nil=>simp at cP|cons _ _=>rfl
 have aT:(1:Int)<(aj wh).size:=by rw[ag];omega
 have ia:0<(aj wh).size:=by rw[ag];omega
 have gi:(((aj wh)[0].toNat:Int)==48)=false:=by
  have:=dQ (aj wh) ia;rw[ah]at this;rw[beq_eq_false_iff_ne];intro e;apply cP.2;rw[this]
  congr 1
  exact UInt8.toNat_inj.1 (by have:(48:UInt8).toNat=48:=rfl;omega)
 have hn:=aa hn;have aJ:=aa aJ;have bR:=aa bR;have bq:=aa bq;have ew:=aa dD;clear cP dD;obtain⟨sB,cj⟩:∃sB,aj l4=sB:=⟨_,rfl⟩
 have cC:sB.size<=100000:=by rw[<-cj,ag];omega
 have kD:=aa (show bl sB=l4 by rw[<-cj,ah]);have ow:sB.toList.isEmpty=true:=by rw[<-cj,aN,hL];rfl
 rw[hL];have cj:=aa cj;have hL:=aa hL;go_enter func184,ntmps184;go_wp2_with fail
 refine(ax s 45 _ _ rfl (by omega)).mono ?_;rw[hn.out,aJ.out];rintro e w1 ⟨rfl,ai⟩;have H1:=aa (HT.out.then ai);clear HT ai;obtain⟨c0,c1,c2,c3,c4,f0,f1,f2,f3,f4⟩:=H1.out.b1.cells;go_wp2_with fail
 refine(aD (aj l1) _ (by rw[ag];omega)).mono ?_;rw[ah,bR.out,bq.out];rintro e w2 ⟨rfl,aq⟩;have H2:Hid (bA w w2 false ⟨#[]⟩ ⟨#[]⟩ false ⟨#[]⟩ n ⟨#[]⟩ ⟨#[]⟩ false ⟨#[]⟩):=by
  have h:=H1.out;have h':bA w (w1.setCell ⟨w.heap.size+1,0,none⟩ (.bool n)) false ⟨#[]⟩ ⟨#[]⟩ false ⟨#[]⟩ n ⟨#[]⟩ ⟨#[]⟩ false ⟨#[]⟩:=⟨ao h.below (by omega),h.b0.other (by omega),h.b1.set0⟩
  exact h'.then aq
 clear H1 aq c0 c1 c2 c3 c4 f0 f1 f2 f3 f4;obtain⟨c0,c1,c2,c3,c4,f0,f1,f2,f3,f4⟩:=H2.out.b1.cells;obtain⟨d0,d1,d2,d3,d4,g0,g1,g2,g3,g4⟩:=H2.out.b0.cells;go_wp2_with fail
 refine(ax (aj l2) 46 _ _ rfl (by rw[ag];omega)).mono ?_;rw[ah,ew.out,iX.out];rintro e w3 ⟨rfl,ar⟩;have H3:Hid (bA w w3 false ⟨#[]⟩ ⟨#[]⟩ false ⟨#[]⟩ n (aj wh) ⟨#[]⟩ false ⟨#[]⟩):=by
  have h:=H2.out;have h':bA w (w2.setCell ⟨w.heap.size+1,1,none⟩ (.string (aj wh))) false ⟨#[]⟩ ⟨#[]⟩ false ⟨#[]⟩ n (aj wh) ⟨#[]⟩ false ⟨#[]⟩:=⟨ao h.below (by omega),h.b0.other (by omega),h.b1.set1⟩
  exact h'.then ar
 clear H2 ar c0 c1 c2 c3 c4 f0 f1 f2 f3 f4 d0 d1 d2 d3 d4 g0 g1 g2 g3 g4;obtain⟨c0,c1,c2,c3,c4,f0,f1,f2,f3,f4⟩:=H3.out.b1.cells;obtain⟨d0,d1,d2,d3,d4,g0,g1,g2,g3,g4⟩:=H3.out.b0.cells;go_wp2_with fail
 refine(aD (aj l3) _ (by rw[ag];omega)).mono ?_;rw[ah,cO.out,ig.out,cj.out];rintro e w4 ⟨rfl,aO⟩;have H4:=aa (H3.out.then aO);clear H3 aO c0 c1 c2 c3 c4 f0 f1 f2 f3 f4 d0 d1 d2 d3 d4 g0 g1 g2 g3 g4;obtain⟨c0,c1,c2,c3,c4,f0,f1,f2,f3,f4⟩:=H4.out.b1.cells;obtain⟨d0,d1,d2,d3,d4,g0,g1,g2,g3,g4⟩:=H4.out.b0.cells;go_wp2;refine bodyPost_ret (v:=.tuple #[.agg #[.bool n,.string (aj wh),.string (aj fr),.bool false,.string ⟨#[]⟩],.bool true]) (by simp[results,Tryz.results184,go_sem,d0,d1,d2,d3,d4]) rfl ⟨rfl,?_⟩;iterate 6 refine ao ?_ (by omega)
 exact H4.out.below
theorem mH(s:ByteArray)(w:World)(hs:s.size<=100000)(cP:1<((aC 45 (bl s)).takeWhile isDig).length/\((aC 45 (bl s)).takeWhile isDig).head?≠some 48)(dD:dV 46 ((aC 45 (bl s)).dropWhile isDig)=true)(dL:((aC 46 ((aC 45 (bl s)).dropWhile isDig)).takeWhile isDig).isEmpty=false)(c:UInt8)(r:List UInt8)(hL:((aC 46 ((aC 45 (bl s)).dropWhile isDig)).dropWhile isDig)=c::r)(bB:c≠101)(br:c≠69):Calls prog 184 #[.string s] w fun e w'=>e=cw (aY (dV 45 (bl s)) ((aC 45 (bl s)).takeWhile isDig) ((aC 46 ((aC 45 (bl s)).dropWhile isDig)).takeWhile isDig) ((aC 46 ((aC 45 (bl s)).dropWhile isDig)).dropWhile isDig))/\Below w.heap.size w w':=by
 have ml:maxLen=2^63-1:=rfl;have HT:=aa (cr w false ⟨#[]⟩ ⟨#[]⟩ false ⟨#[]⟩ false ⟨#[]⟩ ⟨#[]⟩ false ⟨#[]⟩);have q1:=aG 45 (bl s);rw[bl_length]at q1;have q2:=az (aC 45 (bl s));have q3:=aB (aC 45 (bl s));obtain⟨n,hn⟩:∃n,dV 45 (bl s)=n:=⟨_,rfl⟩
 obtain⟨l1,aJ⟩:∃l1,aC 45 (bl s)=l1:=⟨_,rfl⟩
 rw[aJ]at q1 q2 q3;obtain⟨wh,bR⟩:∃wh,l1.takeWhile isDig=wh:=⟨_,rfl⟩
 obtain⟨l2,bq⟩:∃l2,l1.dropWhile isDig=l2:=⟨_,rfl⟩
 rw[bR]at q2;rw[bq]at q3;rw[aJ,bR]at cP;rw[hn,aJ,bR,bq];rw[aJ,bq]at dD hL;rw[aJ,bq]at dL;have q4:=aG 46 l2;have q5:=az (aC 46 l2);have q6:=aB (aC 46 l2);obtain⟨l3,iX⟩:∃l3,aC 46 l2=l3:=⟨_,rfl⟩
 obtain⟨fr,cO⟩:∃fr,(aC 46 l2).takeWhile isDig=fr:=⟨_,rfl⟩
 obtain⟨l4,ig⟩:∃l4,(aC 46 l2).dropWhile isDig=l4:=⟨_,rfl⟩
 rw[cO]at dL q5 ⊢;rw[ig]at q6 hL ⊢;rw[iX]at cO ig q4 q5 q6;have vj:(aj fr).toList.isEmpty=false:=by rw[aN];exact dL
 have iX:=aa iX;have cO:=aa cO;have ig:=aa ig;have sK:(aj wh).toList.isEmpty=false:=by rw[aN];cases wh with|nil=>simp at cP|cons _ _=>rfl
 have aT:(1:Int)<(aj wh).size:=by rw[ag];omega
 have ia:0<(aj wh).size:=by rw[ag];omega
 have gi:(((aj wh)[0].toNat:Int)==48)=false:=by
  have:=dQ (aj wh) ia;rw[ah]at this;rw[beq_eq_false_iff_ne];intro e;apply cP.2;rw[this]
  congr 1
  exact UInt8.toNat_inj.1 (by have:(48:UInt8).toNat=48:=rfl;omega)
 have hn:=aa hn;have aJ:=aa aJ;have bR:=aa bR;have bq:=aa bq;have ew:=aa dD;clear cP dD;obtain⟨sB,cj⟩:∃sB,aj l4=sB:=⟨_,rfl⟩
 have cC:sB.size<=100000:=by rw[<-cj,ag];omega
 have kD:=aa (show bl sB=l4 by rw[<-cj,ah]);have ow:sB.toList.isEmpty=false:=by rw[<-cj,aN,hL];rfl
 have ll:0<sB.size:=by rw[<-cj,ag,hL];simp
 have xp:(0:Int)<sB.size:=by omega
 have LF:(1:Int)<=sB.size:=by omega
 have iY:sB[0]=c:=by subst cj;simp only[hL];exact bG c r (by rw[ag];simp)
 have LH:r.length<=100000:=by
  have e':l4.length=r.length+1:=by rw[hL];rfl
  omega
 have eW:=aa (show sB.extract 1 sB.size=aj r by rw[bd,<-cj,ah,hL];rfl);have hT:=aa (show cw (aY n wh fr l4)=ch false false ⟨#[]⟩ ⟨#[]⟩ false ⟨#[]⟩by rw[hL];unfold aY;simp[bB,br];rfl);have ai:((sB[0].toNat:Int) != 101)=true:=by rw[bne_iff_ne,iY];intro e;exact bB (UInt8.toNat_inj.1 (by have:(101:UInt8).toNat=101:=rfl;omega))
 have aq:((sB[0].toNat:Int) != 69)=true:=by rw[bne_iff_ne,iY];intro e;exact br (UInt8.toNat_inj.1 (by have:(69:UInt8).toNat=69:=rfl;omega))
 clear iY bB br;have cj:=aa cj;have hL:=aa hL;go_enter func184,ntmps184;go_wp2_with fail
 refine(ax s 45 _ _ rfl (by omega)).mono ?_;rw[hn.out,aJ.out];rintro e w1 ⟨rfl,ai⟩;have H1:=aa (HT.out.then ai);clear HT ai;obtain⟨c0,c1,c2,c3,c4,f0,f1,f2,f3,f4⟩:=H1.out.b1.cells;go_wp2_with fail
 refine(aD (aj l1) _ (by rw[ag];omega)).mono ?_;rw[ah,bR.out,bq.out];rintro e w2 ⟨rfl,aq⟩;have H2:Hid (bA w w2 false ⟨#[]⟩ ⟨#[]⟩ false ⟨#[]⟩ n ⟨#[]⟩ ⟨#[]⟩ false ⟨#[]⟩):=by
  have h:=H1.out;have h':bA w (w1.setCell ⟨w.heap.size+1,0,none⟩ (.bool n)) false ⟨#[]⟩ ⟨#[]⟩ false ⟨#[]⟩ n ⟨#[]⟩ ⟨#[]⟩ false ⟨#[]⟩:=⟨ao h.below (by omega),h.b0.other (by omega),h.b1.set0⟩
  exact h'.then aq
 clear H1 aq c0 c1 c2 c3 c4 f0 f1 f2 f3 f4;obtain⟨c0,c1,c2,c3,c4,f0,f1,f2,f3,f4⟩:=H2.out.b1.cells;obtain⟨d0,d1,d2,d3,d4,g0,g1,g2,g3,g4⟩:=H2.out.b0.cells;go_wp2_with fail
 refine(ax (aj l2) 46 _ _ rfl (by rw[ag];omega)).mono ?_;rw[ah,ew.out,iX.out];rintro e w3 ⟨rfl,ar⟩;have H3:Hid (bA w w3 false ⟨#[]⟩ ⟨#[]⟩ false ⟨#[]⟩ n (aj wh) ⟨#[]⟩ false ⟨#[]⟩):=by
  have h:=H2.out;have h':bA w (w2.setCell ⟨w.heap.size+1,1,none⟩ (.string (aj wh))) false ⟨#[]⟩ ⟨#[]⟩ false ⟨#[]⟩ n (aj wh) ⟨#[]⟩ false ⟨#[]⟩:=⟨ao h.below (by omega),h.b0.other (by omega),h.b1.set1⟩
  exact h'.then ar
 clear H2 ar c0 c1 c2 c3 c4 f0 f1 f2 f3 f4 d0 d1 d2 d3 d4 g0 g1 g2 g3 g4;obtain⟨c0,c1,c2,c3,c4,f0,f1,f2,f3,f4⟩:=H3.out.b1.cells;obtain⟨d0,d1,d2,d3,d4,g0,g1,g2,g3,g4⟩:=H3.out.b0.cells;go_wp2_with fail
 refine(aD (aj l3) _ (by rw[ag];omega)).mono ?_;rw[ah,cO.out,ig.out,cj.out];rintro e w4 ⟨rfl,aO⟩;have H4:=aa (H3.out.then aO);clear H3 aO c0 c1 c2 c3 c4 f0 f1 f2 f3 f4 d0 d1 d2 d3 d4 g0 g1 g2 g3 g4;obtain⟨c0,c1,c2,c3,c4,f0,f1,f2,f3,f4⟩:=H4.out.b1.cells;obtain⟨d0,d1,d2,d3,d4,g0,g1,g2,g3,g4⟩:=H4.out.b0.cells;go_wp2;refine bodyPost_ret (v:=.tuple #[.agg #[.bool false,.string ⟨#[]⟩,.string ⟨#[]⟩,.bool false,.string ⟨#[]⟩],.bool false]) (by simp[results,Tryz.results184,go_sem,d0,d1,d2,d3,d4]) rfl ⟨by rw[hT.out];rfl,?_⟩;iterate 6 refine ao ?_ (by omega)
 exact H4.out.below
theorem jy(s:ByteArray)(w:World)(hs:s.size<=100000)(cP:1<((aC 45 (bl s)).takeWhile isDig).length/\((aC 45 (bl s)).takeWhile isDig).head?≠some 48)(dD:dV 46 ((aC 45 (bl s)).dropWhile isDig)=true)(dL:((aC 46 ((aC 45 (bl s)).dropWhile isDig)).takeWhile isDig).isEmpty=false)(c:UInt8)(r:List UInt8)(hL:((aC 46 ((aC 45 (bl s)).dropWhile isDig)).dropWhile isDig)=c::r)(hc:c=101\/c=69):Calls prog 184 #[.string s] w fun e w'=>e=cw (aY (dV 45 (bl s)) ((aC 45 (bl s)).takeWhile isDig) ((aC 46 ((aC 45 (bl s)).dropWhile isDig)).takeWhile isDig) ((aC 46 ((aC 45 (bl s)).dropWhile isDig)).dropWhile isDig))/\Below w.heap.size w w':=by
 have ml:maxLen=2^63-1:=rfl;have HT:=aa (cr w false ⟨#[]⟩ ⟨#[]⟩ false ⟨#[]⟩ false ⟨#[]⟩ ⟨#[]⟩ false ⟨#[]⟩);have q1:=aG 45 (bl s);rw[bl_length]at q1;have q2:=az (aC 45 (bl s));have q3:=aB (aC 45 (bl s));obtain⟨n,hn⟩:∃n,dV 45 (bl s)=n:=⟨_,rfl⟩
 obtain⟨l1,aJ⟩:∃l1,aC 45 (bl s)=l1:=⟨_,rfl⟩
 rw[aJ]at q1 q2 q3;obtain⟨wh,bR⟩:∃wh,l1.takeWhile isDig=wh:=⟨_,rfl⟩
 obtain⟨l2,bq⟩:∃l2,l1.dropWhile isDig=l2:=⟨_,rfl⟩
 rw[bR]at q2;rw[bq]at q3;rw[aJ,bR]at cP;rw[hn,aJ,bR,bq];rw[aJ,bq]at dD hL;rw[aJ,bq]at dL;have q4:=aG 46 l2;have q5:=az (aC 46 l2);have q6:=aB (aC 46 l2);obtain⟨l3,iX⟩:∃l3,aC 46 l2=l3:=⟨_,rfl⟩
 obtain⟨fr,cO⟩:∃fr,(aC 46 l2).takeWhile isDig=fr:=⟨_,rfl⟩
 obtain⟨l4,ig⟩:∃l4,(aC 46 l2).dropWhile isDig=l4:=⟨_,rfl⟩
 rw[cO]at dL q5 ⊢;rw[ig]at q6 hL ⊢;rw[iX]at cO ig q4 q5 q6;have vj:(aj fr).toList.isEmpty=false:=by rw[aN];exact dL
 have iX:=aa iX;have cO:=aa cO;have ig:=aa ig;have sK:(aj wh).toList.isEmpty=false:=by rw[aN];cases wh with|nil=>simp at cP|cons _ _=>rfl
 have aT:(1:Int)<(aj wh).size:=by rw[ag];omega
 have ia:0<(aj wh).size:=by rw[ag];omega
 have gi:(((aj wh)[0].toNat:Int)==48)=false:=by
  have:=dQ (aj wh) ia;rw[ah]at this;rw[beq_eq_false_iff_ne];intro e;apply cP.2;rw[this]
  congr 1
  exact UInt8.toNat_inj.1 (by have:(48:UInt8).toNat=48:=rfl;omega)
 have hn:=aa hn;have aJ:=aa aJ;have bR:=aa bR;have bq:=aa bq;have ew:=aa dD;clear cP dD;obtain⟨sB,cj⟩:∃sB,aj l4=sB:=⟨_,rfl⟩
 have cC:sB.size<=100000:=by rw[<-cj,ag];omega
 have kD:=aa (show bl sB=l4 by rw[<-cj,ah]);have ow:sB.toList.isEmpty=false:=by rw[<-cj,aN,hL];rfl
 have ll:0<sB.size:=by rw[<-cj,ag,hL];simp
 have xp:(0:Int)<sB.size:=by omega
 have LF:(1:Int)<=sB.size:=by omega
 have iY:sB[0]=c:=by subst cj;simp only[hL];exact bG c r (by rw[ag];simp)
 have LH:r.length<=100000:=by
  have e':l4.length=r.length+1:=by rw[hL];rfl
  omega
 have eW:=aa (show sB.extract 1 sB.size=aj r by rw[bd,<-cj,ah,hL];rfl);obtain⟨so,sM⟩:∃so,jg r=so:=⟨_,rfl⟩
 have hT:=aa (show cw (aY n wh fr l4)=(bif so then ch true n (aj wh) (aj fr) (fC r) (aj (gm r)) else ch false false ⟨#[]⟩ ⟨#[]⟩ false ⟨#[]⟩)by rw[hL];unfold aY;rcases hc with q|q<;>cases so<;>simp[q,sM]<;>rfl)
 have gd:(((sB[0].toNat:Int) != 101)=false)\/(((sB[0].toNat:Int) != 101)=true/\((sB[0].toNat:Int) != 69)=false):=by
  rcases hc with q|q
  ·rw[iY,q];exact Or.inl rfl
  rw[iY,q];exact Or.inr ⟨rfl,rfl⟩
 clear iY hc;have sM:=aa sM;have cj:=aa cj;have hL:=aa hL;have SP:=aa (fun W=>fh n (aj wh) (aj fr) ⟨#[]⟩ (sB.extract 1 sB.size) W (by rw[eW.out,ag];omega) so (by rw[eW.out,ah];exact sM.out));rcases gd with ai|⟨ai,aq⟩<;>cases so
 all_goals
  go_enter func184,ntmps184;go_wp2_with fail
  refine(ax s 45 _ _ rfl (by omega)).mono ?_;rw[hn.out,aJ.out];rintro e w1 ⟨rfl,ai⟩;have H1:=aa (HT.out.then ai);clear HT ai;obtain⟨c0,c1,c2,c3,c4,f0,f1,f2,f3,f4⟩:=H1.out.b1.cells;go_wp2_with fail
  refine(aD (aj l1) _ (by rw[ag];omega)).mono ?_;rw[ah,bR.out,bq.out];rintro e w2 ⟨rfl,aq⟩;have H2:Hid (bA w w2 false ⟨#[]⟩ ⟨#[]⟩ false ⟨#[]⟩ n ⟨#[]⟩ ⟨#[]⟩ false ⟨#[]⟩):=by
   have h:=H1.out;have h':bA w (w1.setCell ⟨w.heap.size+1,0,none⟩ (.bool n)) false ⟨#[]⟩ ⟨#[]⟩ false ⟨#[]⟩ n ⟨#[]⟩ ⟨#[]⟩ false ⟨#[]⟩:=⟨ao h.below (by omega),h.b0.other (by omega),h.b1.set0⟩
   exact h'.then aq
  clear H1 aq c0 c1 c2 c3 c4 f0 f1 f2 f3 f4;obtain⟨c0,c1,c2,c3,c4,f0,f1,f2,f3,f4⟩:=H2.out.b1.cells;obtain⟨d0,d1,d2,d3,d4,g0,g1,g2,g3,g4⟩:=H2.out.b0.cells;go_wp2_with fail
  refine(ax (aj l2) 46 _ _ rfl (by rw[ag];omega)).mono ?_;rw[ah,ew.out,iX.out];rintro e w3 ⟨rfl,ar⟩;have H3:Hid (bA w w3 false ⟨#[]⟩ ⟨#[]⟩ false ⟨#[]⟩ n (aj wh) ⟨#[]⟩ false ⟨#[]⟩):=by
   have h:=H2.out;have h':bA w (w2.setCell ⟨w.heap.size+1,1,none⟩ (.string (aj wh))) false ⟨#[]⟩ ⟨#[]⟩ false ⟨#[]⟩ n (aj wh) ⟨#[]⟩ false ⟨#[]⟩:=⟨ao h.below (by omega),h.b0.other (by omega),h.b1.set1⟩
   exact h'.then ar
  clear H2 ar c0 c1 c2 c3 c4 f0 f1 f2 f3 f4 d0 d1 d2 d3 d4 g0 g1 g2 g3 g4;obtain⟨c0,c1,c2,c3,c4,f0,f1,f2,f3,f4⟩:=H3.out.b1.cells;obtain⟨d0,d1,d2,d3,d4,g0,g1,g2,g3,g4⟩:=H3.out.b0.cells;go_wp2_with fail
  refine(aD (aj l3) _ (by rw[ag];omega)).mono ?_;rw[ah,cO.out,ig.out,cj.out];rintro e w4 ⟨rfl,aO⟩;have H4:=aa (H3.out.then aO);clear H3 aO c0 c1 c2 c3 c4 f0 f1 f2 f3 f4 d0 d1 d2 d3 d4 g0 g1 g2 g3 g4;obtain⟨c0,c1,c2,c3,c4,f0,f1,f2,f3,f4⟩:=H4.out.b1.cells;obtain⟨d0,d1,d2,d3,d4,g0,g1,g2,g3,g4⟩:=H4.out.b0.cells;have HW:Hid (bA w (w4.setCell ⟨w.heap.size+1,2,none⟩ (.string (aj fr))).drew false ⟨#[]⟩ ⟨#[]⟩ false ⟨#[]⟩ n (aj wh) (aj fr) false ⟨#[]⟩):=⟨(ao H4.out.below (by omega)).drew,H4.out.b0.other (by omega),H4.out.b1.set2⟩
  go_wp2_with fail
  go_region_with(go_at_call 211;refine(SP.out _).mono ?_;rw[eW.out,ah];rintro e w5 ⟨rfl,bg⟩;have H5:=aa (HW.out.then bg);clear bg;obtain⟨e0,e1,e2,e3,e4,k0,k1,k2,k3,k4⟩:=H5.out.b0.cells;simp only[ch,if_true,Bool.false_eq_true,if_false])
  all_goals
   go_wp2
   first|refine bodyPost_ret (v:=.tuple #[.agg #[.bool n,.string (aj wh),.string (aj fr),.bool (fC r),.string (aj (gm r))],.bool true]) (by simp[results,Tryz.results184,go_sem,e0,e1,e2,e3,e4]) rfl ⟨by rw[hT.out];rfl,?_⟩|refine bodyPost_ret (v:=.tuple #[.agg #[.bool false,.string ⟨#[]⟩,.string ⟨#[]⟩,.bool false,.string ⟨#[]⟩],.bool false]) (by simp[results,Tryz.results184,go_sem,e0,e1,e2,e3,e4]) rfl ⟨by rw[hT.out];rfl,?_⟩
   iterate 5 refine ao ?_ (by omega)
   exact H5.out.below
theorem lQ(s:ByteArray)(w:World)(hs:s.size<=100000)(cP:1<((aC 45 (bl s)).takeWhile isDig).length/\((aC 45 (bl s)).takeWhile isDig).head?≠some 48)(dD:dV 46 ((aC 45 (bl s)).dropWhile isDig)=true)(dL:((aC 46 ((aC 45 (bl s)).dropWhile isDig)).takeWhile isDig).isEmpty=true):Calls prog 184 #[.string s] w fun e w'=>e=ch false false ⟨#[]⟩ ⟨#[]⟩ false ⟨#[]⟩/\Below w.heap.size w w':=by
 have ml:maxLen=2^63-1:=rfl;have HT:=aa (cr w false ⟨#[]⟩ ⟨#[]⟩ false ⟨#[]⟩ false ⟨#[]⟩ ⟨#[]⟩ false ⟨#[]⟩);have q1:=aG 45 (bl s);rw[bl_length]at q1;have q2:=az (aC 45 (bl s));have q3:=aB (aC 45 (bl s));obtain⟨n,hn⟩:∃n,dV 45 (bl s)=n:=⟨_,rfl⟩
 obtain⟨l1,aJ⟩:∃l1,aC 45 (bl s)=l1:=⟨_,rfl⟩
 rw[aJ]at q1 q2 q3;obtain⟨wh,bR⟩:∃wh,l1.takeWhile isDig=wh:=⟨_,rfl⟩
 obtain⟨l2,bq⟩:∃l2,l1.dropWhile isDig=l2:=⟨_,rfl⟩
 rw[bR]at q2;rw[bq]at q3;rw[aJ,bR]at cP;rw[aJ,bq]at dD dL;have q4:=aG 46 l2;obtain⟨l3,iX⟩:∃l3,aC 46 l2=l3:=⟨_,rfl⟩
 obtain⟨fr,cO⟩:∃fr,(aC 46 l2).takeWhile isDig=fr:=⟨_,rfl⟩
 obtain⟨l4,ig⟩:∃l4,(aC 46 l2).dropWhile isDig=l4:=⟨_,rfl⟩
 rw[cO]at dL;rw[iX]at cO ig q4;have vj:(aj fr).toList.isEmpty=true:=by rw[aN];exact dL
 have iX:=aa iX;have cO:=aa cO;have ig:=aa ig;have sK:(aj wh).toList.isEmpty=false:=by rw[aN];cases wh with|nil=>simp at cP|cons _ _=>rfl
 have aT:(1:Int)<(aj wh).size:=by rw[ag];omega
 have ia:0<(aj wh).size:=by rw[ag];omega
 have gi:(((aj wh)[0].toNat:Int)==48)=false:=by
  have:=dQ (aj wh) ia;rw[ah]at this;rw[beq_eq_false_iff_ne];intro e;apply cP.2;rw[this]
  congr 1
  exact UInt8.toNat_inj.1 (by have:(48:UInt8).toNat=48:=rfl;omega)
 have hn:=aa hn;have aJ:=aa aJ;have bR:=aa bR;have bq:=aa bq;have ew:=aa dD;clear cP dD dL;go_enter func184,ntmps184;go_wp2_with fail
 refine(ax s 45 _ _ rfl (by omega)).mono ?_;rw[hn.out,aJ.out];rintro e w1 ⟨rfl,ai⟩;have H1:=aa (HT.out.then ai);clear HT ai;obtain⟨c0,c1,c2,c3,c4,f0,f1,f2,f3,f4⟩:=H1.out.b1.cells;go_wp2_with fail
 refine(aD (aj l1) _ (by rw[ag];omega)).mono ?_;rw[ah,bR.out,bq.out];rintro e w2 ⟨rfl,aq⟩;have H2:Hid (bA w w2 false ⟨#[]⟩ ⟨#[]⟩ false ⟨#[]⟩ n ⟨#[]⟩ ⟨#[]⟩ false ⟨#[]⟩):=by
  have h:=H1.out;have h':bA w (w1.setCell ⟨w.heap.size+1,0,none⟩ (.bool n)) false ⟨#[]⟩ ⟨#[]⟩ false ⟨#[]⟩ n ⟨#[]⟩ ⟨#[]⟩ false ⟨#[]⟩:=⟨ao h.below (by omega),h.b0.other (by omega),h.b1.set0⟩
  exact h'.then aq
 clear H1 aq c0 c1 c2 c3 c4 f0 f1 f2 f3 f4;obtain⟨c0,c1,c2,c3,c4,f0,f1,f2,f3,f4⟩:=H2.out.b1.cells;obtain⟨d0,d1,d2,d3,d4,g0,g1,g2,g3,g4⟩:=H2.out.b0.cells;go_wp2_with fail
 refine(ax (aj l2) 46 _ _ rfl (by rw[ag];omega)).mono ?_;rw[ah,ew.out,iX.out];rintro e w3 ⟨rfl,ar⟩;have H3:Hid (bA w w3 false ⟨#[]⟩ ⟨#[]⟩ false ⟨#[]⟩ n (aj wh) ⟨#[]⟩ false ⟨#[]⟩):=by
  have h:=H2.out;have h':bA w (w2.setCell ⟨w.heap.size+1,1,none⟩ (.string (aj wh))) false ⟨#[]⟩ ⟨#[]⟩ false ⟨#[]⟩ n (aj wh) ⟨#[]⟩ false ⟨#[]⟩:=⟨ao h.below (by omega),h.b0.other (by omega),h.b1.set1⟩
  exact h'.then ar
 clear H2 ar c0 c1 c2 c3 c4 f0 f1 f2 f3 f4 d0 d1 d2 d3 d4 g0 g1 g2 g3 g4;obtain⟨c0,c1,c2,c3,c4,f0,f1,f2,f3,f4⟩:=H3.out.b1.cells;obtain⟨d0,d1,d2,d3,d4,g0,g1,g2,g3,g4⟩:=H3.out.b0.cells;go_wp2_with fail
 refine(aD (aj l3) _ (by rw[ag];omega)).mono ?_;rw[ah,cO.out,ig.out];rintro e w4 ⟨rfl,aO⟩;have H4:=aa (H3.out.then aO);clear H3 aO c0 c1 c2 c3 c4 f0 f1 f2 f3 f4 d0 d1 d2 d3 d4 g0 g1 g2 g3 g4;obtain⟨c0,c1,c2,c3,c4,f0,f1,f2,f3,f4⟩:=H4.out.b1.cells;obtain⟨d0,d1,d2,d3,d4,g0,g1,g2,g3,g4⟩:=H4.out.b0.cells;go_wp2;refine bodyPost_ret (v:=.tuple #[.agg #[.bool false,.string ⟨#[]⟩,.string ⟨#[]⟩,.bool false,.string ⟨#[]⟩],.bool false]) (by simp[results,Tryz.results184,go_sem,d0,d1,d2,d3,d4]) rfl ⟨rfl,?_⟩;iterate 6 refine ao ?_ (by omega)
 exact H4.out.below
