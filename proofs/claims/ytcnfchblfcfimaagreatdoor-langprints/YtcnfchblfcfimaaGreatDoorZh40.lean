import Derived.Test.YtcnfchblfcfimaaGreatDoorZh39
import Derived.Test.YtcnfchblfcfimaaGreatDoorZh37
set_option linter.all false
set_option maxHeartbeats 4000000
set_option maxRecDepth 100000
namespace Go.Proofs.YtcnfchblfcfimaaGreatDoor
open Proofs.Tryz RowKit
namespace Lx
theorem Na.atq{n:Nat}{w:World}{v:Value}{l:List (TT n)}(h:Na n w v l)(i:Nat)(hi:i<l.length):∃b o c,v=.slice (some ⟨b,o,none⟩) l.length c/\b<w.heap.size/\l.length<=c/\c<=maxLen/\∃s:S2,w.rangeAt b (o+i*3) (cE (gz n l[i]) s).toList/\lN n w l[i] s:=by obtain⟨b,o,c,h1,h2,h3,h4,ns,ls,h5,h6⟩:=TL.at h i hi;exact⟨b,o,c,h1,h2,h3,h4,⟨ns,ls⟩,h5,h6⟩
theorem rX{w:World}{b o:Nat}{h:Th}{q:S2}(k:w.rangeAt b o (cE h q).toList):w.cell? ⟨b,o,none⟩=some (.int .i64 h.kind)/\w.cell? ⟨b,o+1,none⟩=some q.ns/\w.cell? ⟨b,o+2,none⟩=some q.ls:=pI k
def Nb:(n:Nat)->TT n->Prop
 |0,_=>True
 |n+1,x=>1<=x.1.kind/\x.1.kind<=11/\(x.1.kind=9->x.2.length=1)/\(x.1.kind=10\/x.1.kind=11->x.1.names.length=x.2.length)/\(∀s∈x.1.names,s.size<=60000)/\x.2.length<=100000/\∀y∈x.2,Nb n y
def yd(n:Nat):Prop:=∀(x:TT n) (q:S2) (w:World),lN n w x q->Nb n x->(eh n x).length<=1000000->Gs w->Calls prog 55 #[.agg (cE (gz n x) q)] w fun e w'=>bE (eh n x) w e w'
theorem lF{n:Nat}(ih:yd n)(hP:aW)(m:List UInt8)(nv v:Value)(nms:List ByteArray)(l:List (TT n))(w:World)(g:Gs w)(hn:NL w nv nms)(hl:Na n w v l)(aL:nms.length=l.length)(hs:∀s∈nms,s.size<=60000)(hp:∀y∈l,Nb n y)(hz:(io m nms (l.map (eh n))).length<=1000000)(nT:l.length<=100000):Calls prog 112 #[nv,.string (aj m),v,.func (.func 55) #[] #[]] w fun e w'=>bE (io m nms (l.map (eh n))) w e w':=by
 obtain⟨na,nc,rfl,cm,df⟩:=hn.len;obtain⟨la,lc,rfl,aJ,bq⟩:=hl.len;obtain⟨I,hI⟩:∃I,mY m nms (l.map (eh n))=I:=⟨_,rfl⟩
 have zz:I.length=nms.length:=by rw[<-hI];exact sE _ _ _ (by simp[aL])
 have vr:Hid (∀k (h1:k<nms.length) (h2:k<l.length) (h:k<I.length),I[k]=de (bl nms[k])::mk m::eh n l[k]):=fun k h1 h2 h=>by subst hI;rw[sF m nms _ k h1 (by simpa using h2)];simp
 have hN:io m nms (l.map (eh n))=fM [123] (aU (mk [44]) I) [125]:=by rw[<-hI];rfl
 rw[hN]at hz ⊢;have eR:Hid ((aU (mk [44]) I).length<=1000000):=by show _<=_;simp only[fM,List.length_cons,List.length_append]at hz;omega
 obtain⟨N,gl⟩:∃N,nms.length=N:=⟨_,rfl⟩
 have HN:=aa hn;have HL:=aa hl;have HG:=aa g;have HS:=aa hs;have HP:=aa hp;have IH:=aa ih;have HPO:=aa hP;have Ri:N<=100000:=by omega
 have eB:=aa (zz.trans gl);have sP:=aa (aL.symm.trans gl);have Ez:=aa gl;rw[gl];rw[aL.symm.trans gl];clear hn hl g hs hp ih hP hI hN hz zz aL cm df aJ bq nT;clear gl;go_enter func112,ntmps112
 go_wp2_with fail
 go_loopw [9,10,11,14] (fun t _ _ i W=>∃k:Nat,i=.int .i64 k/\k<=N/\Hid (OT W w.heap.size t (aU (mk [44]) (I.take k))/\Below w.heap.size w W)) (fun _ _ _ i _=>N-(intOf i).toNat)
 case atStart=>exact⟨0,rfl,Nat.zero_le _,by simpa [aU] using OT.nil _ _,af⟩
 case round=>
  obtain⟨k,rfl,hk,H⟩:=hrel;have B0:=aa H.out.2;have O0:=aa H.out.1;obtain⟨ta,tc,rfl⟩:=H.out.1.shape;have dP:Hid ((aU (mk [44]) (I.take k)).length<=1000000):=by show _<=_;exact Nat.le_trans (jh _ _ _) eR.out
  clear H;by_cases ix:k<N
  ·have bF:(k:Int)<(N:Int):=by omega
   have aE:k<l.length:=by rw[sP.out];exact ix
   have ri:k<nms.length:=by rw[Ez.out];exact ix
   obtain⟨nb,no,gn,aQ,BZ,Ey,Ew,hcell⟩:=HN.out.at k ri;have pR:=Value.slice.inj aQ;obtain⟨rfl,_,rfl⟩:=pR;clear aQ;have hcell2:=(World.cell?_of_block (w:=w) (a:=⟨nb,no+k,none⟩) (B0.out.block nb BZ)).trans hcell;have oM:Hid ((eh n (l[k]'(aE))).length<=1000000):=by have h1:=mK (mk [44]) I k (by rw[eB.out];exact ix);rw[vr.out k ri aE (by rw[eB.out];exact ix)]at h1;have:=eR.out;show _<=_;simp only[List.length_cons]at h1;omega
   have HNB:=aa BZ;have HCL:=aa hcell;clear hcell BZ Ey Ew;obtain⟨s0,vP⟩:∃s0,nms[k]'(ri)=s0:=⟨_,rfl⟩
   have Qm:=aa vP;rw[vP]at hcell2;by_cases eM:k=0
   ·have nj:¬(0:Int)<(k:Int):=by omega
    have ek:aU (mk [44]) (I.take k)=[]:=by rw[eM];simp[aU]
    have e0:(aU (mk [44]) (I.take k)).length=0:=by rw[ek];rfl
    rw[ek]at O0;have O1:Hid (OT wr w.heap.size (.slice ta 0 tc) ([]:List Tk)):=O0;have hlenP:Hid ((([]:List Tk)++[de (bl s0),mk m]).length<=1000000):=by show _<=_;simp
    rw[e0];have HK0:=aa eM;clear O0 dP e0 ek eM;have GA:=aa (HG.out.below B0.out);have xt:=aa (gC HPO.out nms[k] _ GA.out.gg (HS.out _ (List.getElem_mem _)));rw[vP]at xt;go_wp2_with(go_at_call 74;refine ak.out ?_)
    refine ak.mk ?_;refine xt.out.mono ?_;rintro e wa ⟨rfl,xF⟩;have BA:=aa (ac B0.out xF);have OA:=aa (O1.out.below xF);clear xF xt;unfold dO;go_wp2_with(go_at_call 73;refine ak.out ?_)
    refine ak.mk ?_;refine(eC _ _).mono ?_;rintro e wb ⟨rfl,gd⟩;have BB:=aa (ac BA.out gd);have OB:=aa ((OA.out.below gd).below (ab (o:=.cells #[.int .i64 (de (bl s0)).w,.string (aj (de (bl s0)).s),.int .i64 (de (bl s0)).p,.int .i64 4,.string (aj m),.int .i64 0] 88) af));have NB:=aa (fg wb w.heap.size (de (bl s0)) (mk m) BB.out.size);clear gd OA BA;go_wp2_with(at_builtin;refine ak.out ?_)
    refine ak.mk ?_;refine aZ rfl (.tmp 25) (.tmp 30) rfl w.heap.size (.slice ta 0 tc) ([]:List Tk) rfl OB.out w.heap.size (.slice (some ⟨wb.heap.size,0,none⟩) 2 2) [de (bl s0),mk m] rfl NB.out (by have:=hlenP.out;simp only[List.length_append,List.length_cons,List.length_nil]at this ⊢;omega) (by simp only[World.size_alloc];have:=BB.out.size;omega) ?_;intro va vn vc wc oc bc;have BC:=aa ((BB.out.alloc BB.out.size _).trans bc.out);have OC:=aa oc.out;clear oc bc OB NB BB;obtain⟨lb,lo,lc9,cd,ic,lm,ni,q,bT,bf⟩:=Na.atq HL.out k (by rw[sP.out];exact ix);have sO:=Value.slice.inj cd;obtain⟨rfl,_,rfl⟩:=sO;clear cd;obtain⟨b1,b2,b3,b4,b5,b6,aK⟩:=bf.shape;subst aK;have q0:=rX (am bT BC.out ic);have hcall:=aa (IH.out (l[k]'(aE)) _ wc (bf.below BC.out) (HP.out _ (List.getElem_mem _)) oM.out (HG.out.below BC.out));clear bT bf ic;unfold cE fR at hcall
    dsimp only at hcall
    unfold bE at hcall;go_wp2_with(go_at_call 55;refine ak.out ?_)
    refine ak.mk ?_;refine hcall.out.mono ?_;rintro e wd1 ⟨v2,rfl,iz,aq⟩;have BD:=aa (ac BC.out aq);have OD:=aa (OC.out.below aq);have O2:=aa iz;clear aq iz hcall q0 OC;go_wp2_with(at_builtin;refine ak.out ?_)
    refine ak.mk ?_;refine aZ rfl (.tmp 32) (.tmp 38) rfl w.heap.size (.slice va vn vc) (([]:List Tk)++[de (bl s0),mk m]) rfl OD.out wc.heap.size v2 (eh n (l[k]'(aE))) rfl O2.out (by have h1:=hlenP.out;have h2:=oM.out;simp only[List.length_append,List.length_cons,List.length_nil]at h1 h2 ⊢;omega) BD.out.size ?_;intro ua un uc we oe be;have BE:=aa (BD.out.trans be.out);go_wp2_with fail
    refine⟨⟨k+1,by go_num,by omega,?_,BE.out⟩,by simp[intOf];omega⟩;rw[dY _ I k (by rw[eB.out];exact ix),if_pos HK0.out,vr.out k (by rw[Ez.out];exact ix) aE (by rw[eB.out];exact ix),Qm.out];have:=oe.out
    simpa using this
   have nj:(0:Int)<(k:Int):=by omega
   obtain⟨T0,EY⟩:∃T0,aU (mk [44]) (I.take k)=T0:=⟨_,rfl⟩
   have HT0:=aa EY;rw[EY]at O0 dP ⊢;have hlenP:Hid (((T0++[mk [44]])++[de (bl s0),mk m]).length<=1000005):=by show _<=_;have:=dP.out;simp only[List.length_append,List.length_cons,List.length_nil];omega
   clear EY;go_wp2_with(go_at_call 73;refine ak.out ?_)
   refine ak.mk ?_;refine(eC _ _).mono ?_;rintro e wm ⟨rfl,Bd⟩;have BM:=aa (ac B0.out Bd);have OM:=aa ((O0.out.below Bd).below (ab (o:=.cells #[.int .i64 4,.string ⟨#[44]⟩,.int .i64 0] 88) af));have NM:=aa (bv wm w.heap.size (mk [44]) BM.out.size);clear Bd O0;go_wp2_with(at_builtin;refine ak.out ?_)
   refine ak.mk ?_;refine aZ rfl (.tmp 21) (.tmp 23) rfl w.heap.size (.slice ta T0.length tc) T0 rfl OM.out w.heap.size (.slice (some ⟨wm.heap.size,0,none⟩) 1 1) [mk [44]] rfl NM.out (by have:=dP.out;simp only[List.length_cons,List.length_nil];omega) (by simp only[World.size_alloc];have:=BM.out.size;omega) ?_;intro sa sn sc ws os bs;have BS:=aa ((BM.out.alloc BM.out.size _).trans bs.out);have O1:=aa os.out;clear os bs OM NM BM B0;have hcell3:=(World.cell?_of_block (w:=w) (a:=⟨nb,no+k,none⟩) (BS.out.block nb HNB.out)).trans HCL.out;have GA:=aa (HG.out.below BS.out);have xt:=aa (gC HPO.out nms[k] _ GA.out.gg (HS.out _ (List.getElem_mem _)));rw[vP]at xt;go_wp2_with(go_at_call 74;refine ak.out ?_)
   refine ak.mk ?_;refine xt.out.mono ?_;rintro e wa ⟨rfl,xF⟩;have BA:=aa (ac BS.out xF);have OA:=aa (O1.out.below xF);clear xF xt;unfold dO;go_wp2_with(go_at_call 73;refine ak.out ?_)
   refine ak.mk ?_;refine(eC _ _).mono ?_;rintro e wb ⟨rfl,gd⟩;have BB:=aa (ac BA.out gd);have OB:=aa ((OA.out.below gd).below (ab (o:=.cells #[.int .i64 (de (bl s0)).w,.string (aj (de (bl s0)).s),.int .i64 (de (bl s0)).p,.int .i64 4,.string (aj m),.int .i64 0] 88) af));have NB:=aa (fg wb w.heap.size (de (bl s0)) (mk m) BB.out.size);clear gd OA BA;go_wp2_with(at_builtin;refine ak.out ?_)
   refine ak.mk ?_;refine aZ rfl (.tmp 25) (.tmp 30) rfl w.heap.size (.slice sa sn sc) (T0++[mk [44]]) rfl OB.out w.heap.size (.slice (some ⟨wb.heap.size,0,none⟩) 2 2) [de (bl s0),mk m] rfl NB.out (by have:=hlenP.out;simp only[List.length_append,List.length_cons,List.length_nil]at this ⊢;omega) (by simp only[World.size_alloc];have:=BB.out.size;omega) ?_;intro va vn vc wc oc bc;have BC:=aa ((BB.out.alloc BB.out.size _).trans bc.out);have OC:=aa oc.out;clear oc bc OB NB BB;obtain⟨lb,lo,lc9,cd,ic,lm,ni,q,bT,bf⟩:=Na.atq HL.out k (by rw[sP.out];exact ix);have sO:=Value.slice.inj cd;obtain⟨rfl,_,rfl⟩:=sO;clear cd;obtain⟨b1,b2,b3,b4,b5,b6,aK⟩:=bf.shape;subst aK;have q0:=rX (am bT BC.out ic);have hcall:=aa (IH.out (l[k]'(aE)) _ wc (bf.below BC.out) (HP.out _ (List.getElem_mem _)) oM.out (HG.out.below BC.out));clear bT bf ic;unfold cE fR at hcall
   dsimp only at hcall
   unfold bE at hcall;go_wp2_with(go_at_call 55;refine ak.out ?_)
   refine ak.mk ?_;refine hcall.out.mono ?_;rintro e wd1 ⟨v2,rfl,iz,aq⟩;have BD:=aa (ac BC.out aq);have OD:=aa (OC.out.below aq);have O2:=aa iz;clear aq iz hcall q0 OC;go_wp2_with(at_builtin;refine ak.out ?_)
   refine ak.mk ?_;refine aZ rfl (.tmp 32) (.tmp 38) rfl w.heap.size (.slice va vn vc) ((T0++[mk [44]])++[de (bl s0),mk m]) rfl OD.out wc.heap.size v2 (eh n (l[k]'(aE))) rfl O2.out (by have h1:=hlenP.out;have h2:=oM.out;simp only[List.length_append,List.length_cons,List.length_nil]at h1 h2 ⊢;omega) BD.out.size ?_;intro ua un uc we oe be;have BE:=aa (BD.out.trans be.out);go_wp2_with fail
   refine⟨⟨k+1,by go_num,by omega,?_,BE.out⟩,by simp[intOf];omega⟩;rw[dY _ I k (by rw[eB.out];exact ix),if_neg eM,vr.out k (by rw[Ez.out];exact ix) aE (by rw[eB.out];exact ix),Qm.out,HT0.out];have:=oe.out
   simpa using this
  have bF:¬(k:Int)<(N:Int):=by omega
  have EH:k=N:=by omega
  subst EH;have OF:Hid (OT wr w.heap.size (.slice ta (aU (mk [44]) (I.take k)).length tc) (aU (mk [44]) I)):=by have h:=O0.out;have e:I.take k=I:=List.take_of_length_le (by rw[eB.out];exact Nat.le_refl _);show OT _ _ _ _;rw[e]at h ⊢;exact h
  have sR:=aa (dA [123] [125] _ _ _ wr OF.out eR.out);unfold bE at sR;clear OF O0;go_wp2_with(go_at_call 77;refine ak.out ?_)
  refine ak.mk ?_;refine sR.out.mono ?_;rintro e w9 ⟨v9,rfl,Qn,qa⟩;have H9:=aa Qn;have B9:=aa (ac B0.out qa);have Js:=B0.out.size;clear Qn qa sR;go_wp2_with fail
  go_ret;exact⟨_,rfl,H9.out.low Js,B9.out⟩
theorem yi{W:World}{i:Nat}{h:Th}{q:S2}(k:Ty W i h q):W.cell? ⟨i,1,none⟩=some q.ns/\W.cell? ⟨i,2,none⟩=some q.ls:=⟨k.cells.2.1,k.cells.2.2⟩
theorem Ty.dr{W:World}{i:Nat}{h:Th}{q:S2}(k:Ty W i h q):Ty W.drew i h q:=⟨k.at_⟩
theorem Ty.al{W:World}{i:Nat}{h:Th}{q:S2}{o:Obj}(k:Ty W i h q):Ty (W.alloc o) i h q:=k.below (ab af)
structure YS(w:World)(h:Th)(q:S2)(W:World):Prop where
 bel:Below w.heap.size w W
 ty:Ty W w.heap.size h q
section
variable {w W : World} {h : Th} {q : S2}
theorem YS.dr(H:YS w h q W):YS w h q W.drew:=⟨H.bel.drew,H.ty.dr⟩
theorem YS.al{o:Obj}(H:YS w h q W):YS w h q (W.alloc o):=⟨H.bel.alloc H.bel.size _,H.ty.al⟩
theorem YS.below{W1:World}(H:YS w h q W)(hb:Below W.heap.size W W1):YS w h q W1:=⟨ac H.bel hb,H.ty.below hb⟩
theorem YS.cells{lb lo:Nat}{he:Th}{qe:S2}(H:YS w h q W)(k:w.rangeAt lb lo (cE he qe).toList)(ic:lb<w.heap.size):W.cell? ⟨w.heap.size,2,none⟩=some q.ls/\W.cell? ⟨lb,lo,none⟩=some (.int .i64 he.kind)/\W.cell? ⟨lb,lo+1,none⟩=some qe.ns/\W.cell? ⟨lb,lo+2,none⟩=some qe.ls:=⟨H.ty.cells.2.2,rX (am k H.bel ic)⟩
end
section
variable {n : Nat} {nms : List ByteArray} {l : List (TT n)} {q : S2} {w : World}
theorem wj(hP:aW)(ih:yd n)(hr:lN (n+1) w (⟨10,nms⟩,l) q)(h1:nms.length=l.length)(hs:∀s∈nms,s.size<=60000)(hp:∀y∈l,Nb n y)(nT:l.length<=100000)(hz:(io [58] nms (l.map (eh n))).length<=1000000)(g:Gs w):Calls prog 55 #[.agg (cE ⟨10,nms⟩ q)] w fun e w'=>bE (wd [114,101,99,111,114,100]::io [58] nms (l.map (eh n))) w e w':=by
 obtain⟨x1,y1,z1,x2,y2,z2,aK⟩:=hr.shape;subst aK;have X0:=aa (eu w ⟨10,nms⟩ ⟨.slice x1 y1 z1,.slice x2 y2 z2⟩);have B0:Hid (∀o,Below w.heap.size w (w.alloc o)):=fun o=>ab af;have hc:=aa (fun W (hb:Below w.heap.size w W)=>lF ih hP [58] _ _ nms l W (g.below hb) (NL.below hr.1 hb) (TL.below (RT.tl hr) hb) h1 hs hp hz nT);clear hr hs g hP hp ih h1;obtain⟨T,hT⟩:∃T,io [58] nms (l.map (eh n))=T:=⟨_,rfl⟩
 rw[hT]at hc hz ⊢;have HZ:=aa hz;clear hT hz;unfold cE fR at X0 ⊢
 dsimp only at X0 hc ⊢
 unfold bE at hc;have c0:=yi X0.out
 dsimp only at c0
 go_enter func55,ntmps55;go_wp2_with fail
 go_region_held3 (fun W=>W.cell? ⟨w.heap.size,1,none⟩=some (.slice x1 y1 z1)/\W.cell? ⟨w.heap.size,2,none⟩=some (.slice x2 y2 z2)) (first|(refine yi (h:=⟨10,nms⟩) (q:=⟨.slice x1 y1 z1,.slice x2 y2 z2⟩) ?_;(repeat (first|with_reducible (exact X0.out)|with_reducible (exact X1.out)|with_reducible (exact X2.out)|with_reducible (exact X3.out)|with_reducible (refine Ty.dr ?_)|with_reducible (refine Ty.al ?_))))) (first|(go_at_call 75;refine(bu _ _).mono ?_;rintro e w1 ⟨rfl,ai⟩;have B1:=aa (ac (B0.out _).drew ai);have X1:=aa (X0.out.dr.below ai);clear ai)|(go_at_call 112;refine(hc.out _ B1.out).mono ?_;rintro e w2 ⟨v2,rfl,iz,aq⟩;have B2:=aa (ac B1.out aq);have X2:=aa (X1.out.below aq);have O2:=aa (iz.low B1.out.size);have N2:=aa (bv w2 (w.heap.size+1) (wd [114,101,99,111,114,100]) X2.out.lt);clear aq iz)|(go_at_call 112;refine(hc.out _ (B1.out.alloc B1.out.size _)).mono ?_;rintro e w2 ⟨v2,rfl,iz,aq⟩;have B2:=aa (ac (B1.out.alloc B1.out.size _) aq);have X2:=aa (X1.out.al.below aq);have O2:=aa (iz.low (C:=w.heap.size) (by simp only[World.size_alloc];have:=B1.out.size;omega));have N2:=aa ((bv w1 (w.heap.size+1) (wd [114,101,99,111,114,100]) X1.out.lt).below aq);clear aq iz)|(refine fT rfl (.tmp 19) (.tmp 24) rfl (w.heap.size+1) _ [wd [114,101,99,111,114,100]] rfl N2.out w.heap.size _ T rfl O2.out (by have:=HZ.out;simp only[List.length_cons,List.length_nil];omega) X2.out.lt ?_;intro ta tn tc w3 o3 b3;have X3:=aa (Ty.mk ((b3.out.block w.heap.size (by omega)).trans X2.out.at_)))|(refine fT rfl (.tmp 19) (.tmp 24) rfl (w.heap.size+1) _ [wd [114,101,99,111,114,100]] rfl N2.out w.heap.size _ T rfl (O2.out.below (ab af)) (by have:=HZ.out;simp only[List.length_cons,List.length_nil];omega) X2.out.al.lt ?_;intro ta tn tc w3 o3 b3;have X3:=aa (Ty.mk ((b3.out.block w.heap.size (by omega)).trans X2.out.al.at_))))
 all_goals
  go_wp2_with fail
  go_ret;exact⟨_,rfl,(OT.low (C:=w.heap.size) o3.out (by omega)),(by first|exact B2.out.trans (b3.out.mono (by omega))|exact(B2.out.alloc B2.out.size _).trans (b3.out.mono (by omega)))⟩
theorem wi(hP:aW)(ih:yd n)(hr:lN (n+1) w (⟨11,nms⟩,l) q)(h1:nms.length=l.length)(hs:∀s∈nms,s.size<=60000)(hp:∀y∈l,Nb n y)(nT:l.length<=100000)(hz:(io [58] nms (l.map (eh n))).length<=1000000)(g:Gs w):Calls prog 55 #[.agg (cE ⟨11,nms⟩ q)] w fun e w'=>bE (wd [117,110,105,111,110]::io [58] nms (l.map (eh n))) w e w':=by
 obtain⟨x1,y1,z1,x2,y2,z2,aK⟩:=hr.shape;subst aK;have X0:=aa (eu w ⟨11,nms⟩ ⟨.slice x1 y1 z1,.slice x2 y2 z2⟩);have B0:Hid (∀o,Below w.heap.size w (w.alloc o)):=fun o=>ab af;have hc:=aa (fun W (hb:Below w.heap.size w W)=>lF ih hP [58] _ _ nms l W (g.below hb) (NL.below hr.1 hb) (TL.below (RT.tl hr) hb) h1 hs hp hz nT);clear hr hs g hP hp ih h1;obtain⟨T,hT⟩:∃T,io [58] nms (l.map (eh n))=T:=⟨_,rfl⟩
 rw[hT]at hc hz ⊢;have HZ:=aa hz;clear hT hz;unfold cE fR at X0 ⊢
 dsimp only at X0 hc ⊢
 unfold bE at hc;have c0:=yi X0.out
 dsimp only at c0
 go_enter func55,ntmps55;go_wp2_with fail
 go_region_held3 (fun W=>W.cell? ⟨w.heap.size,1,none⟩=some (.slice x1 y1 z1)/\W.cell? ⟨w.heap.size,2,none⟩=some (.slice x2 y2 z2)) (first|(refine yi (h:=⟨11,nms⟩) (q:=⟨.slice x1 y1 z1,.slice x2 y2 z2⟩) ?_;(repeat (first|with_reducible (exact X0.out)|with_reducible (exact X1.out)|with_reducible (exact X2.out)|with_reducible (exact X3.out)|with_reducible (refine Ty.dr ?_)|with_reducible (refine Ty.al ?_))))) (first|(go_at_call 75;refine(bu _ _).mono ?_;rintro e w1 ⟨rfl,ai⟩;have B1:=aa (ac (B0.out _).drew ai);have X1:=aa (X0.out.dr.below ai);clear ai)|(go_at_call 112;refine(hc.out _ B1.out).mono ?_;rintro e w2 ⟨v2,rfl,iz,aq⟩;have B2:=aa (ac B1.out aq);have X2:=aa (X1.out.below aq);have O2:=aa (iz.low B1.out.size);have N2:=aa (bv w2 (w.heap.size+1) (wd [117,110,105,111,110]) X2.out.lt);clear aq iz)|(go_at_call 112;refine(hc.out _ (B1.out.alloc B1.out.size _)).mono ?_;rintro e w2 ⟨v2,rfl,iz,aq⟩;have B2:=aa (ac (B1.out.alloc B1.out.size _) aq);have X2:=aa (X1.out.al.below aq);have O2:=aa (iz.low (C:=w.heap.size) (by simp only[World.size_alloc];have:=B1.out.size;omega));have N2:=aa ((bv w1 (w.heap.size+1) (wd [117,110,105,111,110]) X1.out.lt).below aq);clear aq iz)|(refine fT rfl (.tmp 29) (.tmp 34) rfl (w.heap.size+1) _ [wd [117,110,105,111,110]] rfl N2.out w.heap.size _ T rfl O2.out (by have:=HZ.out;simp only[List.length_cons,List.length_nil];omega) X2.out.lt ?_;intro ta tn tc w3 o3 b3;have X3:=aa (Ty.mk ((b3.out.block w.heap.size (by omega)).trans X2.out.at_)))|(refine fT rfl (.tmp 29) (.tmp 34) rfl (w.heap.size+1) _ [wd [117,110,105,111,110]] rfl N2.out w.heap.size _ T rfl (O2.out.below (ab af)) (by have:=HZ.out;simp only[List.length_cons,List.length_nil];omega) X2.out.al.lt ?_;intro ta tn tc w3 o3 b3;have X3:=aa (Ty.mk ((b3.out.block w.heap.size (by omega)).trans X2.out.al.at_))))
 all_goals
  go_wp2_with fail
  go_ret;exact⟨_,rfl,(OT.low (C:=w.heap.size) o3.out (by omega)),(by first|exact B2.out.trans (b3.out.mono (by omega))|exact(B2.out.alloc B2.out.size _).trans (b3.out.mono (by omega)))⟩
theorem zV(ih:yd n)(hr:lN (n+1) w (⟨9,nms⟩,l) q)(h1:l.length=1)(hp:∀y∈l,Nb n y)(hz:(fM [40] ((l.map (eh n)).headD []) [41]).length<=1000000)(g:Gs w):Calls prog 55 #[.agg (cE ⟨9,nms⟩ q)] w fun e w'=>bE (wd [108,105,115,116]::fM [40] ((l.map (eh n)).headD []) [41]) w e w':=by
 obtain⟨y,rfl⟩:∃y,l=[y]:=by
  match l,h1 with
  | [y],_=>exact⟨y,rfl⟩
 obtain⟨lb,lo,lc9,cd,ic,lm,ni,q2,bT,bf⟩:=Na.atq (RT.tl hr) 0 (by simp);simp only[List.map_cons,List.map_nil,List.headD_cons,List.getElem_cons_zero,Nat.zero_mul,Nat.add_zero]at hz bT bf ⊢;have nS:Hid ((eh n y).length<=1000000):=by show _<=_;simp only[fM,List.length_cons,List.length_append]at hz;omega
 obtain⟨x1,y1,z1,x2,y2,z2,aK⟩:=hr.shape;subst aK;have X0:=aa (eu w ⟨9,nms⟩ ⟨.slice x1 y1 z1,.slice x2 y2 z2⟩);have B0:Hid (∀o,Below w.heap.size w (w.alloc o)):=fun o=>ab af
 dsimp only at cd
 obtain⟨rfl,rfl,rfl⟩:=Value.slice.inj cd;clear cd;obtain⟨b1,b2,b3,b4,b5,b6,aK⟩:=lN.shape bf;subst aK;have hcall:=aa (fun W (hb:Below w.heap.size w W)=>ih y _ W (lN.below bf hb) (hp y (by simp)) nS.out (g.below hb));have QZ:=aa hz;obtain⟨T,hT⟩:∃T,eh n y=T:=⟨_,rfl⟩
 have Y0:=aa (YS.mk (B0.out _) X0.out);have LJ:=aa bT;have PI:=aa ic;clear hr bT bf hp ih g hz ic lm ni;obtain⟨h,hh⟩:∃h,gz n y=h:=⟨_,rfl⟩
 rw[hh]at hcall LJ;rw[hT]at hcall nS QZ ⊢;clear hh hT;have c0:=Y0.out.cells LJ.out PI.out;unfold cE fR at X0 Y0 hcall ⊢;unfold bE at hcall
 dsimp only at X0 Y0 hcall c0 ⊢
 simp only[List.length_cons,List.length_nil]at X0 Y0 c0 ⊢;go_enter func55,ntmps55;go_wp2_with fail
 go_region_held3 (fun W=>W.cell? ⟨w.heap.size,2,none⟩=some (.slice (some ⟨lb,lo,none⟩) (0+1) z2)/\W.cell? ⟨lb,lo,none⟩=some (.int .i64 h.kind)/\W.cell? ⟨lb,lo+1,none⟩=some (.slice b1 b2 b3)/\W.cell? ⟨lb,lo+2,none⟩=some (.slice b4 b5 b6)) (first|(refine YS.cells (w:=w) (h:=⟨9,nms⟩) (q:=⟨.slice x1 y1 z1,.slice (some ⟨lb,lo,none⟩) (0+1) z2⟩) (he:=h) (qe:=⟨.slice b1 b2 b3,.slice b4 b5 b6⟩) ?_ LJ.out PI.out;(repeat (first|with_reducible (exact Y0.out)|with_reducible (exact Y1.out)|with_reducible (exact Y2.out)|with_reducible (exact Y3.out)|with_reducible (exact Y4.out)|with_reducible (refine YS.dr ?_)|with_reducible (refine YS.al ?_))))) (first|(go_at_call 75;refine(bu _ _).mono ?_;rintro e w1 ⟨rfl,ai⟩;have Y1:=aa (Y0.out.dr.below ai);clear ai)|(go_at_call 55;refine(hcall.out _ Y1.out.bel).mono ?_;rintro e w2 ⟨v2,rfl,iz,aq⟩;have Y2:=aa (Y1.out.below aq);have O2:=aa iz;clear aq iz)|(go_at_call 55;refine(hcall.out _ Y1.out.al.bel).mono ?_;rintro e w2 ⟨v2,rfl,iz,aq⟩;have Y2:=aa (Y1.out.al.below aq);have O2:=aa iz;have N2:=aa ((bv w1 (w.heap.size+1) (wd [108,105,115,116]) Y1.out.ty.lt).below aq);clear aq iz)|(go_at_call 77;refine(dA [40] [41] v2 T _ _ (O2.out.below (ab af)) nS.out).mono ?_;rintro e w3 ⟨v3,rfl,kK,ar⟩;have Y3:=aa (Y2.out.al.below ar);have O3:=aa (kK.low (C:=w.heap.size) Y2.out.al.bel.size);have N3:=aa ((bv w2 (w.heap.size+1) (wd [108,105,115,116]) Y2.out.ty.lt).below ar);clear ar kK)|(go_at_call 77;refine(dA [40] [41] v2 T _ _ O2.out nS.out).mono ?_;rintro e w3 ⟨v3,rfl,kK,ar⟩;have Y3:=aa (Y2.out.below ar);have O3:=aa (kK.low (C:=w.heap.size) Y2.out.bel.size);have N3:=aa (N2.out.below ar);clear ar kK)|(go_at_call 77;refine(dA [40] [41] v2 T _ _ O2.out nS.out).mono ?_;rintro e w3 ⟨v3,rfl,kK,ar⟩;have Y3:=aa (Y2.out.below ar);have O3:=aa (kK.low (C:=w.heap.size) Y2.out.bel.size);have N3:=aa (bv w3 (w.heap.size+1) (wd [108,105,115,116]) Y3.out.ty.lt);clear ar kK)|(refine fT rfl (.tmp 8) (.tmp 14) rfl (w.heap.size+1) _ [wd [108,105,115,116]] rfl N3.out w.heap.size _ (fM [40] T [41]) rfl O3.out (by have:=QZ.out;simp only[List.length_cons,List.length_nil];omega) Y3.out.ty.lt ?_;intro ta tn tc w4 o4 bw4;have Y4:=aa (YS.mk (Y3.out.bel.trans (bw4.out.mono (by omega))) (Ty.mk ((bw4.out.block w.heap.size (by omega)).trans Y3.out.ty.at_))))|(refine fT rfl (.tmp 8) (.tmp 14) rfl (w.heap.size+1) _ [wd [108,105,115,116]] rfl N3.out w.heap.size _ (fM [40] T [41]) rfl (O3.out.below (ab af)) (by have:=QZ.out;simp only[List.length_cons,List.length_nil];omega) Y3.out.ty.al.lt ?_;intro ta tn tc w4 o4 bw4;have Y4:=aa (YS.mk (Y3.out.al.bel.trans (bw4.out.mono (by omega))) (Ty.mk ((bw4.out.block w.heap.size (by omega)).trans Y3.out.ty.al.at_)))))
 all_goals
  go_wp2_with fail
  go_ret;exact⟨_,rfl,(OT.low (C:=w.heap.size) o4.out (by omega)),Y4.out.bel⟩
theorem Ad(hr:lN (n+1) w (⟨1,nms⟩,l) q)(g:Gs w):Calls prog 55 #[.agg (cE ⟨1,nms⟩ q)] w fun e w'=>bE [wd [97,110,121]] w e w':=by
 obtain⟨x1,y1,z1,x2,y2,z2,aK⟩:=hr.shape;subst aK;have X0:=aa (eu w ⟨1,nms⟩ ⟨.slice x1 y1 z1,.slice x2 y2 z2⟩);have B0:Hid (∀o,Below w.heap.size w (w.alloc o)):=fun o=>ab af;have c1:∀o,(w.alloc o).cell? ⟨2,1,none⟩=some (.string ⟨#[97,110,121]⟩):=fun o=>by obtain⟨_,t,fr,hc⟩:=(g.below (ab (o:=o) af)).gp;unfold World.cell?;rw[hc];rfl
 clear hr g;unfold cE fR at X0 ⊢
 dsimp only at X0 ⊢
 go_enter func55,ntmps55;go_wp2_with(go_at_call 75;refine ak.out ?_)
 refine ak.mk ?_;refine(bu _ _).mono ?_;rintro e w1 ⟨rfl,ai⟩;have B1:=aa (ac (B0.out _) ai);clear ai c1;go_wp2_with fail
 go_ret;exact⟨_,rfl,bv w1 w.heap.size (wd [97,110,121]) B1.out.size,B1.out.alloc B1.out.size _⟩
theorem Ac(hr:lN (n+1) w (⟨2,nms⟩,l) q)(g:Gs w):Calls prog 55 #[.agg (cE ⟨2,nms⟩ q)] w fun e w'=>bE [wd [110,117,108,108]] w e w':=by
 obtain⟨x1,y1,z1,x2,y2,z2,aK⟩:=hr.shape;subst aK;have X0:=aa (eu w ⟨2,nms⟩ ⟨.slice x1 y1 z1,.slice x2 y2 z2⟩);have B0:Hid (∀o,Below w.heap.size w (w.alloc o)):=fun o=>ab af;have c1:∀o,(w.alloc o).cell? ⟨2,2,none⟩=some (.string ⟨#[110,117,108,108]⟩):=fun o=>by obtain⟨_,t,fr,hc⟩:=(g.below (ab (o:=o) af)).gp;unfold World.cell?;rw[hc];rfl
 clear hr g;unfold cE fR at X0 ⊢
 dsimp only at X0 ⊢
 go_enter func55,ntmps55;go_wp2_with(go_at_call 75;refine ak.out ?_)
 refine ak.mk ?_;refine(bu _ _).mono ?_;rintro e w1 ⟨rfl,ai⟩;have B1:=aa (ac (B0.out _) ai);clear ai c1;go_wp2_with fail
 go_ret;exact⟨_,rfl,bv w1 w.heap.size (wd [110,117,108,108]) B1.out.size,B1.out.alloc B1.out.size _⟩
theorem Ab(hr:lN (n+1) w (⟨3,nms⟩,l) q)(g:Gs w):Calls prog 55 #[.agg (cE ⟨3,nms⟩ q)] w fun e w'=>bE [wd [98,111,111,108]] w e w':=by
 obtain⟨x1,y1,z1,x2,y2,z2,aK⟩:=hr.shape;subst aK;have X0:=aa (eu w ⟨3,nms⟩ ⟨.slice x1 y1 z1,.slice x2 y2 z2⟩);have B0:Hid (∀o,Below w.heap.size w (w.alloc o)):=fun o=>ab af;have c1:∀o,(w.alloc o).cell? ⟨2,3,none⟩=some (.string ⟨#[98,111,111,108]⟩):=fun o=>by obtain⟨_,t,fr,hc⟩:=(g.below (ab (o:=o) af)).gp;unfold World.cell?;rw[hc];rfl
 clear hr g;unfold cE fR at X0 ⊢
 dsimp only at X0 ⊢
 go_enter func55,ntmps55;go_wp2_with(go_at_call 75;refine ak.out ?_)
 refine ak.mk ?_;refine(bu _ _).mono ?_;rintro e w1 ⟨rfl,ai⟩;have B1:=aa (ac (B0.out _) ai);clear ai c1;go_wp2_with fail
 go_ret;exact⟨_,rfl,bv w1 w.heap.size (wd [98,111,111,108]) B1.out.size,B1.out.alloc B1.out.size _⟩
theorem Aa(hr:lN (n+1) w (⟨4,nms⟩,l) q)(g:Gs w):Calls prog 55 #[.agg (cE ⟨4,nms⟩ q)] w fun e w'=>bE [wd [110,117,109]] w e w':=by
 obtain⟨x1,y1,z1,x2,y2,z2,aK⟩:=hr.shape;subst aK;have X0:=aa (eu w ⟨4,nms⟩ ⟨.slice x1 y1 z1,.slice x2 y2 z2⟩);have B0:Hid (∀o,Below w.heap.size w (w.alloc o)):=fun o=>ab af;have c1:∀o,(w.alloc o).cell? ⟨2,4,none⟩=some (.string ⟨#[110,117,109]⟩):=fun o=>by obtain⟨_,t,fr,hc⟩:=(g.below (ab (o:=o) af)).gp;unfold World.cell?;rw[hc];rfl
 clear hr g;unfold cE fR at X0 ⊢
 dsimp only at X0 ⊢
 go_enter func55,ntmps55;go_wp2_with(go_at_call 75;refine ak.out ?_)
 refine ak.mk ?_;refine(bu _ _).mono ?_;rintro e w1 ⟨rfl,ai⟩;have B1:=aa (ac (B0.out _) ai);clear ai c1;go_wp2_with fail
 go_ret;exact⟨_,rfl,bv w1 w.heap.size (wd [110,117,109]) B1.out.size,B1.out.alloc B1.out.size _⟩
theorem zZ(hr:lN (n+1) w (⟨5,nms⟩,l) q)(g:Gs w):Calls prog 55 #[.agg (cE ⟨5,nms⟩ q)] w fun e w'=>bE [wd [105,110,116]] w e w':=by
 obtain⟨x1,y1,z1,x2,y2,z2,aK⟩:=hr.shape;subst aK;have X0:=aa (eu w ⟨5,nms⟩ ⟨.slice x1 y1 z1,.slice x2 y2 z2⟩);have B0:Hid (∀o,Below w.heap.size w (w.alloc o)):=fun o=>ab af;have c1:∀o,(w.alloc o).cell? ⟨2,5,none⟩=some (.string ⟨#[105,110,116]⟩):=fun o=>by obtain⟨_,t,fr,hc⟩:=(g.below (ab (o:=o) af)).gp;unfold World.cell?;rw[hc];rfl
 clear hr g;unfold cE fR at X0 ⊢
 dsimp only at X0 ⊢
 go_enter func55,ntmps55;go_wp2_with(go_at_call 75;refine ak.out ?_)
 refine ak.mk ?_;refine(bu _ _).mono ?_;rintro e w1 ⟨rfl,ai⟩;have B1:=aa (ac (B0.out _) ai);clear ai c1;go_wp2_with fail
 go_ret;exact⟨_,rfl,bv w1 w.heap.size (wd [105,110,116]) B1.out.size,B1.out.alloc B1.out.size _⟩
theorem zY(hr:lN (n+1) w (⟨6,nms⟩,l) q)(g:Gs w):Calls prog 55 #[.agg (cE ⟨6,nms⟩ q)] w fun e w'=>bE [wd [102,108,111,97,116]] w e w':=by
 obtain⟨x1,y1,z1,x2,y2,z2,aK⟩:=hr.shape;subst aK;have X0:=aa (eu w ⟨6,nms⟩ ⟨.slice x1 y1 z1,.slice x2 y2 z2⟩);have B0:Hid (∀o,Below w.heap.size w (w.alloc o)):=fun o=>ab af;have c1:∀o,(w.alloc o).cell? ⟨2,6,none⟩=some (.string ⟨#[102,108,111,97,116]⟩):=fun o=>by obtain⟨_,t,fr,hc⟩:=(g.below (ab (o:=o) af)).gp;unfold World.cell?;rw[hc];rfl
 clear hr g;unfold cE fR at X0 ⊢
 dsimp only at X0 ⊢
 go_enter func55,ntmps55;go_wp2_with(go_at_call 75;refine ak.out ?_)
 refine ak.mk ?_;refine(bu _ _).mono ?_;rintro e w1 ⟨rfl,ai⟩;have B1:=aa (ac (B0.out _) ai);clear ai c1;go_wp2_with fail
 go_ret;exact⟨_,rfl,bv w1 w.heap.size (wd [102,108,111,97,116]) B1.out.size,B1.out.alloc B1.out.size _⟩
theorem zX(hr:lN (n+1) w (⟨7,nms⟩,l) q)(g:Gs w):Calls prog 55 #[.agg (cE ⟨7,nms⟩ q)] w fun e w'=>bE [wd [116,101,120,116]] w e w':=by
 obtain⟨x1,y1,z1,x2,y2,z2,aK⟩:=hr.shape;subst aK;have X0:=aa (eu w ⟨7,nms⟩ ⟨.slice x1 y1 z1,.slice x2 y2 z2⟩);have B0:Hid (∀o,Below w.heap.size w (w.alloc o)):=fun o=>ab af;have c1:∀o,(w.alloc o).cell? ⟨2,7,none⟩=some (.string ⟨#[116,101,120,116]⟩):=fun o=>by obtain⟨_,t,fr,hc⟩:=(g.below (ab (o:=o) af)).gp;unfold World.cell?;rw[hc];rfl
 clear hr g;unfold cE fR at X0 ⊢
 dsimp only at X0 ⊢
 go_enter func55,ntmps55;go_wp2_with(go_at_call 75;refine ak.out ?_)
 refine ak.mk ?_;refine(bu _ _).mono ?_;rintro e w1 ⟨rfl,ai⟩;have B1:=aa (ac (B0.out _) ai);clear ai c1;go_wp2_with fail
 go_ret;exact⟨_,rfl,bv w1 w.heap.size (wd [116,101,120,116]) B1.out.size,B1.out.alloc B1.out.size _⟩
theorem zW(hr:lN (n+1) w (⟨8,nms⟩,l) q)(g:Gs w):Calls prog 55 #[.agg (cE ⟨8,nms⟩ q)] w fun e w'=>bE [wd [98,121,116,101,115]] w e w':=by
 obtain⟨x1,y1,z1,x2,y2,z2,aK⟩:=hr.shape;subst aK;have X0:=aa (eu w ⟨8,nms⟩ ⟨.slice x1 y1 z1,.slice x2 y2 z2⟩);have B0:Hid (∀o,Below w.heap.size w (w.alloc o)):=fun o=>ab af;have c1:∀o,(w.alloc o).cell? ⟨2,8,none⟩=some (.string ⟨#[98,121,116,101,115]⟩):=fun o=>by obtain⟨_,t,fr,hc⟩:=(g.below (ab (o:=o) af)).gp;unfold World.cell?;rw[hc];rfl
 clear hr g;unfold cE fR at X0 ⊢
 dsimp only at X0 ⊢
 go_enter func55,ntmps55;go_wp2_with(go_at_call 75;refine ak.out ?_)
 refine ak.mk ?_;refine(bu _ _).mono ?_;rintro e w1 ⟨rfl,ai⟩;have B1:=aa (ac (B0.out _) ai);clear ai c1;go_wp2_with fail
 go_ret;exact⟨_,rfl,bv w1 w.heap.size (wd [98,121,116,101,115]) B1.out.size,B1.out.alloc B1.out.size _⟩
end
end Lx
