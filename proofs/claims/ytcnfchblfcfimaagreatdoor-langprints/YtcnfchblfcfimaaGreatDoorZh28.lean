import Derived.Test.YtcnfchblfcfimaaGreatDoorZh27
set_option linter.all false
set_option maxHeartbeats 4000000
set_option maxRecDepth 100000
namespace Go.Proofs.YtcnfchblfcfimaaGreatDoor
open Proofs.Tryz RowKit
namespace Lx
theorem FB.grown{B:Nat}{w W W':World}{row:Option Nat}(h:FB B w W)(hg:W.grownBy W' row)(hr:∀g,row=some g->w.heap.size<=g):FB B w W' :=
 ⟨hg.os.trans h.os,hg.tape.trans h.tape,hg.output.trans h.output,Nat.le_trans h.size hg.size,fun k hk hn=>(hg.block k (Nat.lt_of_lt_of_le hk h.size) (fun e=>by have:=hr k e.symm;omega)).trans (h.blk k hk hn)⟩
theorem Lq.grown{B:Nat}{W W':World}{l:List Tk}{row:Option Nat}(h:Lq W B l)(hg:W.grownBy W' row)(hr:∀g,row=some g->B+4<=g):Lq W' B l:=by have hz:=h.tq.sz;have tR:=h.lo;refine⟨h.tq.keep hg.size fun k hk=>hg.block k (by omega) (fun e=>by have:=hr k e.symm;omega),h.ok,?_,h.lo⟩;obtain⟨⟨t,fr,hc⟩,t2,fr2,br⟩:=h.gp;exact⟨⟨t,fr,(hg.block _ (Array.getElem?_eq_some_iff.1 hc).1 (fun e=>by have:=hr _ e.symm;omega)).trans hc⟩,t2,fr2,(hg.block _ (Array.getElem?_eq_some_iff.1 br).1 (fun e=>by have:=hr _ e.symm;omega)).trans br⟩
theorem LB.grown{B i:Nat}{W W':World}{row:Option Nat}(h:LB W i B)(hg:W.grownBy W' row)(hr:∀g,row=some g->i<g):LB W' i B:=(hg.block i h.lt (fun e=>by have:=hr i e.symm;omega)).trans h
theorem eP(m:List UInt8){w:World}{B:Nat}{l:List Tk}(h:Lq w B l):Calls prog 96 #[lv B,.string (aj m)] w fun e w'=>WP B w (dc m l) e w':=by obtain⟨t,l2,rfl⟩:=h.ok.cons;exact tY m h.tq
theorem kI(m:List UInt8){w:World}{B:Nat}{l:List Tk}(h:Lq w B l):Calls prog 62 #[lv B,.string (aj m)] w fun e w'=>e=.returned (.bool (cq m l).1)/\TQ w' B (cq m l).2/\FB B w w':=by obtain⟨t,l2,rfl⟩:=h.ok.cons;exact Iq m h.tq
theorem kT(ns:List (List UInt8)){v:Value}{w:World}{B:Nat}{l:List Tk}(h:Lq w B l)(hv:NL w v (ns.map aj))(hB:IX B v):Calls prog 117 #[lv B,v] w fun e w'=>NP B w (go ns l) e w':=by obtain⟨t,l2,rfl⟩:=h.ok.cons;exact DF ns v h.tq hv hB
theorem yI{W:World}{L N:Nat}{v:Value}{l:List ByteArray}(h:nA W L v l)(e:l.length=N):W.ownsRow L 9 1 v N (tN l):=by subst e;exact h
theorem rV{W:World}{L N m T sz:Nat}{v:Value}{xs:List Value}(h:W.ownsRow L T sz v m xs)(e:m=N):W.ownsRow L T sz v N xs:=by subst e;exact h
def vV(n B:Nat)(w:World)(o:Sum Int (List (List UInt8)×List (ET n)×List Tk))(e:Ending)(w':World):Prop:=FB B w w'/\match o with
 | .inl p=>e=.panicked (pw p)
 | .inr y=>∃nv v xs,e=.returned (.tuple #[nv,v])/\E2 n (w.heap.size+1) w' nv v (y.1.map aj) y.2.1 xs/\TQ w' B y.2.2
theorem vV.bad{n B:Nat}{w w':World}{R:Sum Int (List (List UInt8)×List (ET n)×List Tk)}{p:Int}(e:R=.inl p)(hb:FB B w w'):vV n B w R (.panicked (pw p)) w':=by rw[e];exact⟨hb,rfl⟩
theorem vV.good{n B:Nat}{w w':World}{R:Sum Int (List (List UInt8)×List (ET n)×List Tk)}{y:List (List UInt8)×List (ET n)×List Tk}{nv v:Value}{xs:List Value}(e:R=.inr y)(hb:FB B w w')(hk:E2 n (w.heap.size+1) w' nv v (y.1.map aj) y.2.1 xs)(ht:TQ w' B y.2.2):vV n B w R (.returned (.tuple #[nv,v])) w':=by rw[e];exact⟨hb,nv,v,xs,rfl,hk,ht⟩
structure NI(n B f:Nat)(k:List UInt8)(M:List Tk->Sum Int (ET n×List Tk))(w:World)(R:Sum Int (List (List UInt8)×List (ET n)×List Tk))(W:World)(nv v:Value)(ns:List (List UInt8))(xs:List (ET n))(l:List Tk):Prop where
 fuel:∃g,l.length<=g/\oi k M g ns xs l=R
 lq:Lq W B l
 fb:FB B w W
 rows:∃us,E2 n (w.heap.size+1) W nv v (ns.map aj) xs us
 lb:LB W w.heap.size B
 few:ns.length+l.length<=100000/\xs.length=ns.length/\l.length<=f
theorem AE{n f:Nat}{M:List Tk->Sum Int (ET n×List Tk)}(hM:vK n 26 M f)(hG:Gd M)(k:List UInt8)(hk:k≠[]){w:World}{B:Nat}{l:List Tk}(h:Lq w B l)(hl:l.length<=f):Calls prog 154 #[lv B,.string (aj k),.func (.func 26) #[] #[]] w fun e w'=>vV n B w (dK k M l) e w':=by
 have jQ:=h.tq.sz;have zo:l.length<=100000:=by obtain⟨a,c,_,_,_,_⟩:=h.tq;omega
 have H:=aa h;have ZL:=aa (gO w B);obtain⟨R,hR⟩:∃R,dK k M l=R:=⟨_,rfl⟩
 rw[hR];have HR:=aa hR;have dS:w.heap.size≠B:=by omega
 have HM:=aa hM;have HK:=aa hk;have HG:=aa hG;have jW:=fI (m:=[125]) h.ok (by simp);have hh:Hid (∀w',Lq w' B l->Calls prog 62 #[lv B,.string ⟨#[125]⟩] w' fun e w''=>e=.returned (.bool (cq [125] l).1)/\TQ w'' B (cq [125] l).2/\FB B w' w''):=fun w' hq=>kI [125] hq;clear hR h hM hG;unfold lv at hh ⊢;rcases hb:(cq [125] l).1 with _|_
 ·rw[hb]at hh
  have e1:=jW.2 hb;rw[e1]at hh;have HR2:Hid (oi k M l.length [] [] l=R):=by show _=_;rw[<-HR.out];simp[dK,hb,e1]
  clear HR hb jW e1;go_enter func154,ntmps154
  go_wp2_with(first|(go_at_call 62;refine(hh.out _ H.out.al).mono ?_;rintro e w3 ⟨rfl,dC,ar⟩;have kL:=(ZL.out.fb ar dS).cells;have kl:=(ZL.out.fb ar dS).lt))
  have start:Hid (NI n B f k M w R w3 (.slice none 0 0) (.slice none 0 0) [] [] l):=⟨⟨_,Nat.le_refl _,HR2.out⟩,H.out.al.fb ar dC H.out.ok,(FB.of (ab af)).trans ar,⟨[],E2.nil _ _ _⟩,ZL.out.fb ar dS,by simp;omega,rfl,hl⟩
  clear HR2 dC ar kL kl ZL hh H hl;go_loopw [6,7] (fun nv v w'=>∃ns xs l',Hid (NI n B f k M w R w' nv v ns xs l')) (fun _ _ w'=>lenB w' B)
  case atStart=>exact⟨[],[],l,start.out⟩
  case round=>
   obtain⟨ns,xs,l1,HI⟩:=hrel;clear start;obtain⟨⟨g,hg,JC⟩,xy,JD,⟨us,hE⟩,ic,pU,jD,nk⟩:=HI.out;have ti:B<w.heap.size+1:=by omega
   obtain⟨a,c,a',c',e1,e2⟩:=hE.shape;rw[List.length_map]at e1;rw[jD]at e2;have xu:=hE.notB ti;have AT:=hE.nl;obtain⟨N,hN⟩:∃N,ns.length=N:=⟨_,rfl⟩
   rw[hN]at e1 e2 pU jD;subst e1 e2;have h1:0<l1.length:=by obtain⟨t,r,rfl⟩:=xy.ok.cons;simp
   obtain⟨g,rfl⟩:∃g',g=g'+1:=⟨g-1,by omega⟩
   have aL:=xy.tq.lenB;have HNM:Hid (∀w',Lq w' B l1->NL w' (.slice a N c) (ns.map aj)->Calls prog 117 #[lv B,.slice a N c] w' fun e w''=>NP B w' (go ns l1) e w''):=fun w' p1 p2=>kT ns p1 p2 xu;have LQ:=aa xy;have FBw:=aa JD;have HE:=aa hE;have LBw:=aa ic;have NL0:=aa AT;have iY:=ic.cells;have Bf:(ns.map aj).length=N:=by rw[List.length_map];exact hN
   have HN2:=aa Bf;have El:xs.length=N:=jD;have HX:=aa El;have HF3:=aa nk;have hN200:N<=200000:=by omega
   have Hlen:=aa aL;have FU:=aa JC;have Ms:=aa hg;clear HI JC xy JD hE ic AT xu Bf El nk aL jD hg;unfold lv at HNM;go_wp2_with(go_at_call 117;refine ak.out ?_)
   refine ak.mk ?_;rcases hs:go ns l1 with p|s
   ·rw[hs]at HNM
    have e2:Hid (R=.inl p):=by show _=_;rw[<-FU.out];simp[oi,hs]
    refine(HNM.out _ LQ.out NL0.out).mono ?_;rintro e w1 ⟨ai,rfl⟩;clear FU hs
    first|exact⟨rfl,vV.bad e2.out (FBw.out.trans ai)⟩|(go_wp2_with fail;exact⟨rfl,vV.bad e2.out (FBw.out.trans ai)⟩)
   rw[hs]at HNM;have N1:=aa (jk LQ.out.ok hs);refine(HNM.out _ LQ.out NL0.out).mono ?_;rintro e w1 ⟨ai,rfl,LP⟩;have Q1:=aa (LQ.out.fb ai LP N1.out.1);have E1:=aa (HE.out.fb ai ti);have L1:=aa (LBw.out.fb ai dS);have F1:=aa (FBw.out.trans ai);clear ai LP iY LQ HE LBw FBw NL0 HNM;go_wp2_with(at_builtin;refine ak.out ?_)
   refine ak.mk ?_;refine FM rfl (.tmp 10) (.tmp 14) rfl (w.heap.size+1) (.slice a N c) N (tN (ns.map aj)) rfl (yI E1.out.al.nrow HN2.out) w1.heap.size 1 rfl (aj s.1) (cell_one_new _ _ _ 0 _ rfl) hN200 (by rw[World.size_alloc];have:=F1.out.size;omega) ?_;intro av cv w2 o2 g2 at2;have zl:=E1.out.lt;have E3:=aa (E1.out.al.name HN2.out g2.out o2.out at2.out);have Q2:=aa (Q1.out.al.grown g2.out (fun g hg=>by have:=(zl g (Or.inr hg)).1;omega));have L2:=aa ((L1.out.below (ab af)).grown g2.out (fun g hg=>by have:=(zl g (Or.inr hg)).1;omega));have F2:=aa (F1.out.al.grown g2.out (fun g hg=>by have:=(zl g (Or.inr hg)).1;omega));have kL2:=L2.out.cells;clear o2 g2 at2 zl E1 Q1 L1 F1;have HW:Hid (∀w',Lq w' B s.2->Calls prog 96 #[lv B,.string (aj k)] w' fun e w''=>WP B w' (dc k s.2) e w''):=fun w' p1=>eP k p1;unfold lv at HW;go_wp2_with(go_at_call 96;refine ak.out ?_)
   refine ak.mk ?_;rcases hw:dc k s.2 with p|l2
   ·rw[hw]at HW
    have e2:Hid (R=.inl p):=by show _=_;rw[<-FU.out];simp[oi,hs,hw]
    refine(HW.out _ Q2.out).mono ?_;rintro e w3 ⟨ar,rfl⟩;clear FU hs hw
    first|exact⟨rfl,vV.bad e2.out (F2.out.trans ar)⟩|(go_wp2_with fail;exact⟨rfl,vV.bad e2.out (F2.out.trans ar)⟩)
   rw[hw]at HW;have N2:=aa (bU N1.out.1 HK.out hw);refine(HW.out _ Q2.out).mono ?_;rintro e w3 ⟨ar,rfl,dC⟩;have Q3:=aa (Q2.out.fb ar dC N2.out.1);have E4:=aa (E3.out.fb ar ti);have L3:=aa (L2.out.fb ar dS);have F3:=aa (F2.out.trans ar);have kL3:=L3.out.cells;clear ar dC Q2 E3 L2 F2 kL2 HW;have HI:Hid (∀w',Lq w' B l2->Calls prog 26 #[lv B] w' fun e w''=>PE n B w' (M l2) e w''):=fun w' p1=>HM.out w' B l2 p1 (by have:=N1.out.2;have:=N2.out.2;have:=HF3.out;omega);unfold lv at HI;go_wp2_with(go_at_call 26;refine ak.out ?_)
   refine ak.mk ?_;rcases hm:M l2 with p|x
   ·rw[hm]at HI
    have e2:Hid (R=.inl p):=by show _=_;rw[<-FU.out];simp[oi,hs,hw,hm]
    refine(HI.out _ Q3.out).mono ?_;rintro e w4 ⟨aO,rfl⟩;clear FU hs hw hm
    first|exact⟨rfl,vV.bad e2.out (F3.out.trans aO)⟩|(go_wp2_with fail;exact⟨rfl,vV.bad e2.out (F3.out.trans aO)⟩)
   rw[hm]at HI;have N3:=aa (HG.out _ _ N2.out.1 hm);refine(HI.out _ Q3.out).mono ?_;rintro e w4 ⟨aO,q,rfl,Ii,vd⟩;have K4:=aa Ii;obtain⟨b1,b2,b3,b4,b5,b6,b7,b8,b9,b10,b11,b12,aK⟩:=Ii.rd.shape;subst aK;have Q4:=aa (Q3.out.fb aO vd N3.out.1);have Gc:=aa (E4.out.lt);have E5:=aa (E4.out.fb aO ti);have L4:=aa (L3.out.fb aO dS);have F4:=aa (F3.out.trans aO);have kz4:=aO.size;have kz3:=F3.out.size;have kz5:=L3.out.lt;clear aO vd Ii Q3 E4 L3 kL3 HI;unfold ecl;go_wp2_with(at_builtin;refine ak.out ?_)
   refine ak.mk ?_;refine tI rfl (.tmp 19) (.tmp 23) rfl (w.heap.size+1) (.slice a' N c') N us rfl (rV E5.out.al.row HX.out) w4.heap.size 1 rfl (ehd n x.1) ⟨.slice b1 b2 b3,.slice b4 b5 b6,.slice b7 b8 b9,.slice b10 b11 b12⟩ rfl rfl rfl rfl ((bC _ _ _).range) hN200 (by rw[World.size_alloc];have:=F4.out.size;omega) ?_;intro av2 cv2 w5 o5 g5 at5;have vN:=E5.out.lt;have E6:=aa (E5.out.al.push HX.out K4.out.al (by omega) (fun g hg=>(Gc.out g hg).2) g5.out o5.out at5.out);have Q5:=aa (Q4.out.al.grown g5.out (fun g hg=>by have:=(vN g (Or.inl hg)).1;omega));have L5:=aa ((L4.out.below (ab af)).grown g5.out (fun g hg=>by have:=(vN g (Or.inl hg)).1;omega));have F5:=aa (F4.out.al.grown g5.out (fun g hg=>by have:=(vN g (Or.inl hg)).1;omega));have kL5:=L5.out.cells;clear o5 g5 at5 vN Gc E5 Q4 L4 F4 K4;have AX:=fI (m:=[125]) N3.out.1 (by simp);have HH:Hid (∀w',Lq w' B x.2->Calls prog 62 #[lv B,.string ⟨#[125]⟩] w' fun e w''=>e=.returned (.bool (cq [125] x.2).1)/\TQ w'' B (cq [125] x.2).2/\FB B w' w''):=fun w' hq=>kI [125] hq;unfold lv at HH;go_wp2_with(go_at_call 62;refine ak.out ?_)
   refine ak.mk ?_;rcases hh:(cq [125] x.2).1 with _|_
   rotate_left
   ·rw[hh]at HH
    have N6:=aa (AX.1 hh).1;have e2:Hid (R=.inr (ns++[s.1],xs++[x.1],(cq [125] x.2).2)):=by show _=_;rw[<-FU.out];simp[oi,hs,hw,hm,hh]
    clear FU hs hw hm hh AX;refine(HH.out _ Q5.out).mono ?_;rintro e w6 ⟨rfl,vO,da⟩;have Q6:=aa (Q5.out.fb da vO N6.out);have E7:=aa (E6.out.fb da ti);have F6:=aa (F5.out.trans da);clear da vO Q5 E6 L5 F5 kL5;go_wp2_with fail
    go_ret2;refine vV.good (y:=(ns++[s.1],xs++[x.1],(cq [125] x.2).2)) e2.out F6.out (xs:=us++(ecl (ehd n x.1) ⟨.slice b1 b2 b3,.slice b4 b5 b6,.slice b7 b8 b9,.slice b10 b11 b12⟩).toList) ?_ Q6.out.tq;show E2 _ _ _ _ _ ((ns++[s.1]).map aj) _ _;rw[List.map_append];exact E7.out
   rw[hh,AX.2 hh]at HH;have N6:=aa N3.out.1;have In:=AX.2 hh;refine(HH.out _ Q5.out).mono ?_;rintro e w6 ⟨rfl,vO,da⟩;have Q6:=aa (Q5.out.fb da vO N6.out);have E7:=aa (E6.out.fb da ti);have L6:=aa (L5.out.fb da dS);have F6:=aa (F5.out.trans da);have kL6:=L6.out.cells;clear da vO Q5 E6 L5 F5 kL5 HH;have HC:Hid (∀w',Lq w' B x.2->Calls prog 96 #[lv B,.string ⟨#[44]⟩] w' fun e w''=>WP B w' (dc [44] x.2) e w''):=fun w' p1=>eP [44] p1;unfold lv at HC;go_wp2_with(go_at_call 96;refine ak.out ?_)
   refine ak.mk ?_;rcases hc:dc [44] x.2 with p|l5
   ·rw[hc]at HC
    have e2:Hid (R=.inl p):=by show _=_;rw[<-FU.out];simp[oi,hs,hw,hm,hh,In,hc]
    refine(HC.out _ Q6.out).mono ?_;rintro e w7 ⟨jO,rfl⟩;clear FU hs hw hm hh AX In hc
    first|exact⟨rfl,vV.bad e2.out (F6.out.trans jO)⟩|(go_wp2_with fail;exact⟨rfl,vV.bad e2.out (F6.out.trans jO)⟩)
   rw[hc]at HC;have N7:=aa (bU N3.out.1 (by simp) hc);have e2:Hid (oi k M g (ns++[s.1]) (xs++[x.1]) l5=R):=by show _=_;rw[<-FU.out];simp[oi,hs,hw,hm,hh,In,hc]
   clear FU hs hw hm hh AX In hc;refine(HC.out _ Q6.out).mono ?_;rintro e w7 ⟨jO,rfl,Ps⟩;go_wp2_with fail
   have z1:=N1.out.2;have z2:=N2.out.2;have z3:=N3.out.2;have z7:=N7.out.2;have zg:=Ms.out;refine⟨⟨ns++[s.1],xs++[x.1],l5,⟨g,by omega,e2.out⟩,Q6.out.fb jO Ps N7.out.1,F6.out.trans jO,⟨us++(ecl (ehd n x.1) ⟨.slice b1 b2 b3,.slice b4 b5 b6,.slice b7 b8 b9,.slice b10 b11 b12⟩).toList,?_⟩,L6.out.fb jO dS,?_,?_,?_⟩,?_⟩
   ·rw[List.map_append]
    exact E7.out.fb jO ti
   ·rw[List.length_append,List.length_singleton,hN];omega
   ·rw[List.length_append,List.length_append,List.length_singleton,List.length_singleton,hN,HX.out]
   ·have:=HF3.out;omega
   rw[Hlen.out,Ps.lenB];omega
 rw[hb]at hh;have e2:Hid (R=.inr ([],[],(cq [125] l).2)):=by show _=_;rw[<-HR.out];simp[dK,hb]
 clear HR hb jW;go_enter func154,ntmps154
 go_wp2_with(first|(go_at_call 62;refine(hh.out _ H.out.al).mono ?_;rintro e w3 ⟨rfl,dC,ar⟩;have kL:=(ZL.out.fb ar dS).cells;have kl:=(ZL.out.fb ar dS).lt))
 go_ret2;exact vV.good (xs:=[]) e2.out ((FB.of (ab af)).trans ar) (E2.nil _ _ _) dC
theorem yH{W W':World}{L:Nat}{v:Value}{l:List ByteArray}(ho:nA W L v l)(hb:∀k,L<=k->k<W.heap.size->W'.heap[k]?=W.heap[k]?):NL W' v l:=by
 have hr:=World.ownsRow.lt ho;have h0:=wU ho;rcases id ho.2 with⟨rfl,e⟩|⟨g,cap,cur,rfl,k1,k2,k3,k4,k5,k6⟩
 ·exact Or.inl ⟨rfl,List.eq_nil_of_length_eq_zero e⟩
 have hg:=hr g rfl;have hW:=hb g hg.1 hg.2;rcases h0 with⟨q,_⟩|⟨b,o,c,sp,q,h1,h2,h3,hc⟩
 ·cases q
 have q':=Value.slice.inj q;obtain⟨q1,_,q2⟩:=q';cases q1;subst q2;refine Or.inr ⟨g,0,_,none,rfl,h1,h2,fun _=>⟨rfl,(Array.getElem?_eq_some_iff.1 (hW.trans k2)).1⟩,fun i hi=>?_⟩;exact(World.cell?_of_block (w:=W) hW).trans (hc i hi)
theorem uy(W:World):RD 1 W vz (.slice none 0 0) (.slice none 0 0):=⟨Or.inl ⟨rfl,rfl⟩,Or.inl ⟨rfl,rfl⟩⟩
theorem Ea{n L s:Nat}{W:World}{nv v:Value}{nms:List ByteArray}{l:List (ET n)}{xs:List Value}(h:E2 n L W nv v nms l xs)(op:Int)(hs:s<=L)(hW:s<=W.heap.size):KE (n+1) W (⟨op,aR,nms,1,vz⟩,l) ⟨nv,v,.slice none 0 0,.slice none 0 0⟩ s W.heap.size :=
 ⟨hW,Nat.le_refl _,fun W' h'=>⟨yH h.nrow fun k a b=>h' k (by omega) b,uy W',h.er.el fun k a b=>h' k (by omega) b⟩⟩
theorem nt{n f:Nat}{M:List Tk->Sum Int (ET n×List Tk)}(hM:vK n 26 M f)(hG:Gd M)(op:Int){w:World}{B:Nat}{l:List Tk}(h:Lq w B l)(hl:l.length<=f):Calls prog 118 #[lv B,.int .i64 op] w fun e w'=>PE (n+1) B w (vT M op l) e w':=by
 have jQ:=h.tq.sz;have H:=aa h;have ZL:=aa (gO w B);have Z0:=aa (jY (w.alloc (.cells #[.func (.func 114) #[] #[.pointer (some ⟨B,0,none⟩)],.func (.func 115) #[] #[.pointer (some ⟨B,0,none⟩)]] 83)));rw[World.size_alloc]at Z0;have hn:Hid (∀w',Below w.heap.size w w'->Calls prog 154 #[lv B,.string ⟨#[61]⟩,.func (.func 26) #[] #[]] w' fun e w''=>vV n B w' (dK [61] M l) e w''):=fun w' hb=>AE hM hG [61] (by simp) (h.below hb) hl
 obtain⟨R,hR⟩:∃R,vT M op l=R:=⟨_,rfl⟩
 rw[hR];have HR:=aa hR;have aQ:w.heap.size+1≠B:=by omega
 clear hR h hM hG;unfold lv at hn ⊢;go_enter func118,ntmps118;go_wp2_with(go_at_call 154;refine ak.out ?_)
 refine ak.mk ?_;refine(hn.out _ (ab (ab af))).mono ?_;rcases hx:dK [61] M l with p|y
 ·rintro e w3 ⟨ar,rfl⟩
  have e2:Hid (R=.inl p):=by show _=_;rw[<-HR.out];simp[vT,hx]
  clear HR hx
  first|exact⟨rfl,PE.bad e2.out ((FB.of (ab (ab af))).trans ar)⟩|(go_wp2_with fail;exact⟨rfl,PE.bad e2.out ((FB.of (ab (ab af))).trans ar)⟩)
 rintro e w3 ⟨ar,nv,v,us,rfl,hE,dC⟩;have e2:Hid (R=.inr ((⟨op,aR,y.1.map aj,1,vz⟩,y.2.1),y.2.2)):=by show _=_;rw[<-HR.out];simp[vT,hx]
 obtain⟨a,c,a',c',e3,e4⟩:=hE.shape;rw[e3,e4]at hE ⊢;have HE:=aa hE;have mr:=ar.size;simp only[World.size_alloc]at mr;have kz:=(Z0.out.fb ar aQ).cells;have kf:=(Z0.out.fb ar aQ).frz;have kl:=(Z0.out.fb ar aQ).lt;have HB3:=aa ar;have HQ3:=aa dC;clear HR hx e3 e4 hE ar dC;go_wp2_with fail
 refine bodyPost_ret (v:=.agg (ecl (⟨op,aR,y.1.map aj,1,vz⟩:Eh) ⟨.slice a (y.1.map aj).length c,.slice a' y.2.1.length c',.slice none 0 0,.slice none 0 0⟩)) (by simp[results,Tryz.results118,go_sem,ecl,vz,vH,aI,aR, *]) rfl (PE.good (n:=n+1) (x:=((⟨op,aR,y.1.map aj,1,vz⟩,y.2.1),y.2.2)) e2.out ?_ ?_ ?_)
 ·(iterate 13(refine FB.set ?_ (by omega)))
  exact(FB.of (ab (ab af))).trans HB3.out
 ·refine KE.fin (s:=w.heap.size+2) (e:=w3.heap.size) ?_ (by omega)
  (iterate 13(refine KE.set ?_ (by omega)))
  refine Ea HE.out op ?_ (by omega);simp only[World.size_alloc];omega
 (iterate 13(refine TQ.set ?_ (by omega)))
 exact HQ3.out
structure SA(w:World)(B:Nat)(r:List Tk)(i:Nat)(t:Tk)(W:World):Prop where
 tq:TQ W B r
 gp:Gp W
 lo:15<=B
 lb:LB W w.heap.size B
 ex:Ex W (w.heap.size+1) ze zs
 tb:Tb W i t
 fb:FB B w W
theorem SA.after{w W W1:World}{B i:Nat}{t:Tk}{r r':List Tk}(h:SA w B r i t W)(hB:B+4<=w.heap.size)(hi:w.heap.size<=i)(k:FB B W W1)(hq:TQ W1 B r'):SA w B r' i t W1 :=
 ⟨hq,h.gp.fb k h.lo,h.lo,h.lb.fb k (by omega),h.ex.fb k (by omega),h.tb.fb k (by omega),h.fb.trans k⟩
theorem SA.below{w W W1:World}{B i:Nat}{t:Tk}{r:List Tk}(h:SA w B r i t W)(hB:B+4<=w.heap.size)(hi:w.heap.size<=i)(k:Below W.heap.size W W1):SA w B r i t W1:=h.after hB hi (FB.of k) (h.tq.below k)
theorem SA.lq{w W:World}{B i:Nat}{t:Tk}{r:List Tk}(h:SA w B r i t W)(hk:kO r):Lq W B r:=⟨h.tq,hk,h.gp,h.lo⟩
theorem PE.upp{n B:Nat}{w w':World}{R:Sum Int (ET (n+1)×List Tk)}{x:ET n×List Tk}{q:Sl}(e:R=.inr (qp n x.1,x.2))(hb:FB B w w')(hk:KE n w' x.1 q w.heap.size w'.heap.size)(ht:TQ w' B x.2):PE (n+1) B w R (.returned (.agg (ecl (ehd n x.1) q))) w':=by rw[<-Fr n x.1];exact PE.good (x:=(qp n x.1,x.2)) e hb hk.up ht
theorem Lg{m s:Nat}{W:World}{x:ET m}{q:Sl}(op:Int)(h:KE m W x q s W.heap.size):KE (m+1) (W.alloc (.cells (ecl (ehd m x) q) 33)) ((lf op,[x]):ET (m+1)) ⟨.slice none 0 0,.slice (some ⟨W.heap.size,0,none⟩) 1 1,.slice none 0 0,.slice none 0 0⟩ s (W.heap.size+1):=by
 have hs:=h.1;refine⟨by omega,by simp,fun W' h'=>⟨Or.inl ⟨rfl,rfl⟩,uy W',Or.inr ⟨W.heap.size,0,1,none,rfl,Nat.le_refl _,by decide,fun _=>?_,fun i hi=>?_⟩⟩⟩
 ·have hb:=(h' W.heap.size (by omega) (by omega)).trans (show _=some (Obj.cells (ecl (ehd m x) q) 33 (0,0))from Array.getElem?_push_size)
  exact⟨rfl,(Array.getElem?_eq_some_iff.1 hb).1⟩
 have hb:=(h' W.heap.size (by omega) (by omega)).trans (show _=some (Obj.cells (ecl (ehd m x) q) 33 (0,0))from Array.getElem?_push_size);have Te:i=0:=by simp at hi;omega
 subst Te;refine⟨q,?_,?_⟩
 ·have:=(show Ex W' W.heap.size (ehd m x) q from⟨hb⟩).range
  simpa using this
 refine h.2.2 W' fun k a b=>(h' k a (by omega)).trans ?_;exact Below.heap_alloc _ _ _ b
theorem sy{m s:Nat}{W:World}(h:Eh)(hn:h.names=[])(hv:∀W',RD h.vn W' h.val (.slice none 0 0) (.slice none 0 0))(hs:s<=W.heap.size):KE (m+1) W ((h,[]):ET (m+1)) zs s W.heap.size :=
 ⟨hs,Nat.le_refl _,fun W' _=>⟨Or.inl ⟨rfl,hn⟩,hv W',Or.inl ⟨rfl,rfl⟩⟩⟩
theorem Rr(v:VT 1):aI 1 v=v.1:=rfl
theorem Qz{l:List Tk}{v:VT 1×List Tk}(h:qS l=.inr v)(W:World):RD 1 W v.1 (.slice none 0 0) (.slice none 0 0):=by
 cases l with
 |nil=>cases h
 |cons t r=>
  simp only[qS]at h
  repeat' split at h
  all_goals first|(cases h;exact⟨Or.inl ⟨rfl,rfl⟩,Or.inl ⟨rfl,rfl⟩⟩)|cases h
theorem CH{m f:Nat}{M:List Tk->Sum Int (ET m×List Tk)}(hP:aW)(hM:vK m 26 M f)(hG:Gd M){w:World}{B:Nat}{l:List Tk}(h:Lq w B l)(hl:l.length<=f+1):Calls prog 61 #[lv B] w fun e w'=>PE (m+1) B w (qB M l) e w':=by
 have jQ:=h.tq.sz;obtain⟨t,r,rfl⟩:=h.ok.cons;have aJ:Hid (r.length<=f):=by show _<=_;simpa using hl
 have eS:Hid (bj t≠[]->kO r):=fun e=>h.ok.tail (yG e);have Nj:Hid (∀t' r',r=t'::r'->kO r->t'.s.length<=70000):=fun t' r' e k=>by subst e;exact k.short
 have H:=aa h;have HM:=aa hM;have HG:=aa hG;have HPar:=aa hP;have ZL:=aa (gO w B);have Z0:=aa (jY (w.alloc (.cells #[.func (.func 114) #[] #[.pointer (some ⟨B,0,none⟩)],.func (.func 115) #[] #[.pointer (some ⟨B,0,none⟩)]] 83)));rw[World.size_alloc]at Z0;have hx:Hid (∀w',Below w.heap.size w w'->Calls prog 115 #[.pointer (some ⟨B,0,none⟩)] w' fun e w''=>e=.returned (dO t)/\TQ w'' B r/\FB B w' w''):=fun w' hb=>iN (H.out.tq.below hb);have ho:=aa (im t);unfold dO at hx ho;have aQ:w.heap.size+1≠B:=by omega
 have dS:w.heap.size≠B:=by omega
 obtain⟨R,hR⟩:∃R,qB M (t::r)=R:=⟨_,rfl⟩
 have HR:=aa hR;rw[hR];obtain⟨S,hS⟩:∃S,aj (bj t)=S:=⟨_,rfl⟩
 rw[hS]at ho;clear hR h hl hM hG hP;unfold lv;go_enter func61,ntmps61;go_wp2_with(go_at_call 115;refine ak.out ?_)
 refine ak.mk ((hx.out _ (ab (ab af))).mono ?_);rintro e w3 ⟨rfl,dC,ar⟩;have F3:=aa ((FB.of (ab (ab af))).trans ar);have mr:=ar.size;simp only[World.size_alloc]at mr;have P3:Hid (SA w B r w3.heap.size t (w3.alloc (.cells #[.int .i64 t.w,.string (aj t.s),.int .i64 t.p] 88))):=⟨dC.al,(H.out.gp.fb F3.out H.out.lo).below (ab af),H.out.lo,(((ZL.out.below (ab af)).fb ar dS)).below (ab af),(Z0.out.fb ar aQ).below (ab af),lO w3 t,F3.out.al⟩
 have rj:w.heap.size<=w3.heap.size:=by omega
 clear dC ar F3 hx ZL Z0;go_wp2_with(go_at_call 95;refine ak.out ?_)
 refine ak.mk ((ho.out _).mono ?_);rintro e w4 ⟨rfl,aO⟩;have S4:=aa (P3.out.below jQ rj aO);clear aO P3 ho;have kL:=S4.out.lb.cells;have hu:qB M (t::r)=(if bj t=[40] then (match vB M [41] r with
   | .inl p=>.inl p
   | .inr x=>.inr (qp m x.1,x.2))
  else if bj t=[91] then (match vB M [93] r with
   | .inl p=>.inl p
   | .inr x=>.inr ((lf 4,[x.1]),x.2))
  else if bj t=[46] then Ci 2 r
  else if bj t=[116,97,103] then Ci 5 r
  else if bj t=[123] then vT M 3 r
  else if bj t=[99,97,115,101] then (match dc [123] r with
   | .inl p=>.inl p
   | .inr l=>vT M 6 l)
  else if bj t=[99,111,110,115,116] then (match qS r with
   | .inl p=>.inl p
   | .inr v=>.inr ((⟨7,aR,[],1,v.1⟩,[]),v.2))
  else match Dq (bj t)with
   |some op=>.inr ((lf op,[]),r)
   |none=>.inl t.p):=rfl
 rw[HR.out]at hu;by_cases n0:bj t=[40]
 ·have sW:S=⟨#[40]⟩:=by rw[<-hS,n0];rfl
  have OK:=aa (eS.out (by rw[n0];simp));rw[if_pos n0]at hu;have HU:=aa hu;subst sW;clear hS hu n0;have CL:Hid (∀W,Lq W B r->Calls prog 116 #[lv B,.string ⟨#[41]⟩] W fun e w'=>PE m B W (vB M [41] r) e w'):=fun W q=>qm HM.out HG.out [41] q aJ.out;unfold lv at CL;go_wp2_with(go_at_call 116;refine ak.out ?_)
  refine ak.mk ?_;refine(CL.out _ (S4.out.lq OK.out)).mono ?_;rcases hc:vB M [41] r with p|x
  ·rintro e w5 ⟨bg,rfl⟩
   have e2:Hid (R=.inl p):=by show _=_;rw[HU.out,hc]
   clear hc HU
   first|exact⟨rfl,PE.bad e2.out (S4.out.fb.trans bg)⟩|(go_wp2_with fail;exact⟨rfl,PE.bad e2.out (S4.out.fb.trans bg)⟩)
  rintro e w5 ⟨bg,q,rfl,iy,ir⟩;obtain⟨a,mm,c,a',m',c',a2,m2,c2,a3,m3,c3,aK⟩:=iy.rd.shape;subst aK;have K5:=aa iy;have rh:=S4.out.fb.size;have AP:=bg.size;have EC:=S4.out.ex.lt;have S5:=aa (S4.out.after jQ rj bg ir);clear bg ir iy kL;have e2:Hid (R=.inr (qp m x.1,x.2)):=by show _=_;rw[HU.out,hc]
  clear hc HU;have kz:=S5.out.ex.cells;have kf:=S5.out.ex.frz;have kl:=S5.out.ex.lt;unfold ecl;go_wp2_with fail
  refine bodyPost_ret (v:=.agg (ecl (ehd m x.1) ⟨.slice a mm c,.slice a' m' c',.slice a2 m2 c2,.slice a3 m3 c3⟩)) (by simp[results,Tryz.results61,go_sem,ecl,lf,zs,vz,vH,aI,aR, *]) rfl (PE.upp (x:=x) e2.out ?_ ?_ ?_)
  ·(iterate 13(refine FB.set ?_ (by omega)))
   exact S5.out.fb
  ·refine KE.fin (s:=w4.heap.size) (e:=w5.heap.size) ?_ (by omega)
   (iterate 13(refine KE.set ?_ (by omega)))
   exact K5.out
  (iterate 13(refine TQ.set ?_ (by omega)))
  exact S5.out.tq
 rw[if_neg n0]at hu;have m0:=fE (m:=[40]) (fun q=>n0 (co (hS.trans q)));by_cases n1:bj t=[91]
 ·have sW:S=⟨#[91]⟩:=by rw[<-hS,n1];rfl
  have OK:=aa (eS.out (by rw[n1];simp));rw[if_pos n1]at hu;have HU:=aa hu;subst sW;clear hS hu n1 n0;have CL:Hid (∀W,Lq W B r->Calls prog 116 #[lv B,.string ⟨#[93]⟩] W fun e w'=>PE m B W (vB M [93] r) e w'):=fun W q=>qm HM.out HG.out [93] q aJ.out;unfold lv at CL;go_wp2_with(go_at_call 116;refine ak.out ?_)
  refine ak.mk ?_;refine(CL.out _ (S4.out.lq OK.out)).mono ?_;rcases hc:vB M [93] r with p|x
  ·rintro e w5 ⟨bg,rfl⟩
   have e2:Hid (R=.inl p):=by show _=_;rw[HU.out,hc]
   clear hc HU
   first|exact⟨rfl,PE.bad e2.out (S4.out.fb.trans bg)⟩|(go_wp2_with fail;exact⟨rfl,PE.bad e2.out (S4.out.fb.trans bg)⟩)
  rintro e w5 ⟨bg,q,rfl,iy,ir⟩;obtain⟨a,mm,c,a',m',c',a2,m2,c2,a3,m3,c3,aK⟩:=iy.rd.shape;subst aK;have K5:=aa iy;have rh:=S4.out.fb.size;have AP:=bg.size;have EC:=S4.out.ex.lt;have S5:=aa (S4.out.after jQ rj bg ir);clear bg ir iy kL;have e2:Hid (R=.inr ((lf 4,[x.1]),x.2)):=by show _=_;rw[HU.out,hc]
  clear hc HU;have kz:=S5.out.ex.cells;have kf:=S5.out.ex.frz;have kl:=S5.out.ex.lt;have key:Hid (∀W:World,W.heap.size=w5.heap.size->KE m W x.1 ⟨.slice a mm c,.slice a' m' c',.slice a2 m2 c2,.slice a3 m3 c3⟩ w4.heap.size w5.heap.size->KE (m+1) (W.alloc (.cells (ecl (ehd m x.1) ⟨.slice a mm c,.slice a' m' c',.slice a2 m2 c2,.slice a3 m3 c3⟩) 33)) ((lf 4,[x.1]):ET (m+1)) ⟨.slice none 0 0,.slice (some ⟨w5.heap.size,0,none⟩) 1 1,.slice none 0 0,.slice none 0 0⟩ w.heap.size (W.alloc (.cells (ecl (ehd m x.1) ⟨.slice a mm c,.slice a' m' c',.slice a2 m2 c2,.slice a3 m3 c3⟩) 33)).heap.size):=fun W e k=>by rw[<-e]at k ⊢;exact KE.fin (Lg 4 k) (by omega)
  unfold ecl;go_wp2_with fail
  refine bodyPost_ret (v:=.agg (ecl (lf 4) ⟨.slice none 0 0,.slice (some ⟨w5.heap.size,0,none⟩) 1 1,.slice none 0 0,.slice none 0 0⟩)) (by simp[results,Tryz.results61,go_sem,ecl,lf,zs,vz,vH,aI,aR, *]) rfl (PE.good (n:=m+1) (x:=((lf 4,[x.1]),x.2)) e2.out ?_ ?_ ?_)
  ·refine FB.al ?_
   (iterate 13(refine FB.set ?_ (by omega)))
   exact S5.out.fb
  ·refine key.out _ (by simp) ?_
   (iterate 13(refine KE.set ?_ (by omega)))
   exact K5.out
  refine TQ.al ?_
  (iterate 13(refine TQ.set ?_ (by omega)))
  exact S5.out.tq
 rw[if_neg n1]at hu;have m1:=fE (m:=[91]) (fun q=>n1 (co (hS.trans q)));by_cases n2:bj t=[46]
 ·have sW:S=⟨#[46]⟩:=by rw[<-hS,n2];rfl
  have OK:=aa (eS.out (by rw[n2];simp));rw[if_pos n2]at hu;have HU:=aa hu;subst sW;clear hS hu n2 n0 n1;have CL:Hid (∀W,Lq W B r->Calls prog 117 #[lv B,.slice none 0 0] W fun e w'=>NP B W (go [] r) e w'):=fun W q=>kT [] q (NL.nil W) (fun _ _ _ _ _ h=>by cases h);unfold lv at CL;go_wp2_with(go_at_call 117;refine ak.out ?_)
  refine ak.mk ?_;refine(CL.out _ (S4.out.lq OK.out)).mono ?_;rcases hc:go [] r with p|x
  ·rintro e w5 ⟨bg,rfl⟩
   have e2:Hid (R=.inl p):=by show _=_;rw[HU.out];unfold Ci;rw[hc]
   clear hc HU
   first|exact⟨rfl,PE.bad e2.out (S4.out.fb.trans bg)⟩|(go_wp2_with fail;exact⟨rfl,PE.bad e2.out (S4.out.fb.trans bg)⟩)
  rintro e w5 ⟨bg,rfl,ir⟩;have e2:Hid (R=.inr ((⟨2,aj x.1,[],1,vz⟩,[]),x.2)):=by show _=_;rw[HU.out];unfold Ci;rw[hc]
  have rh:=S4.out.fb.size;have AP:=bg.size;have S5:=aa (S4.out.after jQ rj bg ir);clear bg ir kL hc HU;have kz:=S5.out.ex.cells;have kf:=S5.out.ex.frz;have kl:=S5.out.ex.lt;go_wp2_with fail
  refine bodyPost_ret (v:=.agg (ecl (⟨2,aj x.1,[],1,vz⟩:Eh) zs)) (by simp[results,Tryz.results61,go_sem,ecl,lf,zs,vz,vH,aI,aR, *]) rfl (PE.good (n:=m+1) (x:=((⟨2,aj x.1,[],1,vz⟩,[]),x.2)) e2.out ?_ ?_ ?_)
  ·(iterate 13(refine FB.set ?_ (by omega)))
   exact S5.out.fb
  ·exact sy _ rfl uy (by simp only[World.size_setCell];omega)
  (iterate 13(refine TQ.set ?_ (by omega)))
  exact S5.out.tq
 rw[if_neg n2]at hu;have m2:=fE (m:=[46]) (fun q=>n2 (co (hS.trans q)));by_cases n3:bj t=[116,97,103]
 ·have sW:S=⟨#[116,97,103]⟩:=by rw[<-hS,n3];rfl
  have OK:=aa (eS.out (by rw[n3];simp));rw[if_pos n3]at hu;have HU:=aa hu;subst sW;clear hS hu n3 n0 n1 n2;have CL:Hid (∀W,Lq W B r->Calls prog 117 #[lv B,.slice none 0 0] W fun e w'=>NP B W (go [] r) e w'):=fun W q=>kT [] q (NL.nil W) (fun _ _ _ _ _ h=>by cases h);unfold lv at CL;go_wp2_with(go_at_call 117;refine ak.out ?_)
  refine ak.mk ?_;refine(CL.out _ (S4.out.lq OK.out)).mono ?_;rcases hc:go [] r with p|x
  ·rintro e w5 ⟨bg,rfl⟩
   have e2:Hid (R=.inl p):=by show _=_;rw[HU.out];unfold Ci;rw[hc]
   clear hc HU
   first|exact⟨rfl,PE.bad e2.out (S4.out.fb.trans bg)⟩|(go_wp2_with fail;exact⟨rfl,PE.bad e2.out (S4.out.fb.trans bg)⟩)
  rintro e w5 ⟨bg,rfl,ir⟩;have e2:Hid (R=.inr ((⟨5,aj x.1,[],1,vz⟩,[]),x.2)):=by show _=_;rw[HU.out];unfold Ci;rw[hc]
  have rh:=S4.out.fb.size;have AP:=bg.size;have S5:=aa (S4.out.after jQ rj bg ir);clear bg ir kL hc HU;have kz:=S5.out.ex.cells;have kf:=S5.out.ex.frz;have kl:=S5.out.ex.lt;go_wp2_with fail
  refine bodyPost_ret (v:=.agg (ecl (⟨5,aj x.1,[],1,vz⟩:Eh) zs)) (by simp[results,Tryz.results61,go_sem,ecl,lf,zs,vz,vH,aI,aR, *]) rfl (PE.good (n:=m+1) (x:=((⟨5,aj x.1,[],1,vz⟩,[]),x.2)) e2.out ?_ ?_ ?_)
  ·(iterate 13(refine FB.set ?_ (by omega)))
   exact S5.out.fb
  ·exact sy _ rfl uy (by simp only[World.size_setCell];omega)
  (iterate 13(refine TQ.set ?_ (by omega)))
  exact S5.out.tq
 rw[if_neg n3]at hu;have m3:=fE (m:=[116,97,103]) (fun q=>n3 (co (hS.trans q)));by_cases n4:bj t=[123]
 ·have sW:S=⟨#[123]⟩:=by rw[<-hS,n4];rfl
  have OK:=aa (eS.out (by rw[n4];simp));rw[if_pos n4]at hu;have HU:=aa hu;subst sW;clear hS hu n4 n0 n1 n2 n3;have CL:Hid (∀W,Lq W B r->Calls prog 118 #[lv B,.int .i64 3] W fun e w'=>PE (m+1) B W (vT M 3 r) e w'):=fun W q=>nt HM.out HG.out 3 q aJ.out;unfold lv at CL;go_wp2_with(go_at_call 118;refine ak.out ?_)
  refine ak.mk ?_;refine(CL.out _ (S4.out.lq OK.out)).mono ?_;rcases hc:vT M 3 r with p|x
  ·rintro e w5 ⟨bg,rfl⟩
   have e2:Hid (R=.inl p):=by show _=_;rw[HU.out,hc]
   clear hc HU
   first|exact⟨rfl,PE.bad e2.out (S4.out.fb.trans bg)⟩|(go_wp2_with fail;exact⟨rfl,PE.bad e2.out (S4.out.fb.trans bg)⟩)
  rintro e w5 ⟨bg,q,rfl,iy,ir⟩;have e2:Hid (R=.inr x):=by show _=_;rw[HU.out,hc]
  obtain⟨a,mm,c,a',m',c',a2,m2,c2,a3,m3,c3,aK⟩:=iy.rd.shape;subst aK;have K5:=aa iy;have rh:=S4.out.fb.size;have AP:=bg.size;have EC:=S4.out.ex.lt;have S5:=aa (S4.out.after jQ rj bg ir);clear bg ir iy kL hc HU;have kz:=S5.out.ex.cells;have kf:=S5.out.ex.frz;have kl:=S5.out.ex.lt;unfold ecl;go_wp2_with fail
  refine bodyPost_ret (v:=.agg (ecl (ehd (m+1) x.1) ⟨.slice a mm c,.slice a' m' c',.slice a2 m2 c2,.slice a3 m3 c3⟩)) (by simp[results,Tryz.results61,go_sem,ecl,lf,zs,vz,vH,aI,aR, *]) rfl (PE.good (n:=m+1) (x:=x) e2.out ?_ ?_ ?_)
  ·(iterate 13(refine FB.set ?_ (by omega)))
   exact S5.out.fb
  ·refine KE.fin (s:=w4.heap.size) (e:=w5.heap.size) ?_ (by omega)
   (iterate 13(refine KE.set ?_ (by omega)))
   exact K5.out
  (iterate 13(refine TQ.set ?_ (by omega)))
  exact S5.out.tq
 rw[if_neg n4]at hu;have m4:=fE (m:=[123]) (fun q=>n4 (co (hS.trans q)));by_cases n5:bj t=[99,97,115,101]
 ·have sW:S=⟨#[99,97,115,101]⟩:=by rw[<-hS,n5];rfl
  have OK:=aa (eS.out (by rw[n5];simp));rw[if_pos n5]at hu;have HU:=aa hu;subst sW;clear hS hu n5 n0 n1 n2 n3 n4;have CW:Hid (∀W,Lq W B r->Calls prog 96 #[lv B,.string ⟨#[123]⟩] W fun e w'=>WP B W (dc [123] r) e w'):=fun W q=>eP [123] q;unfold lv at CW;go_wp2_with(go_at_call 96;refine ak.out ?_)
  refine ak.mk ?_;refine(CW.out _ (S4.out.lq OK.out)).mono ?_;rcases hwn:dc [123] r with p|r2
  ·rintro e w5 ⟨bg,rfl⟩
   have e2:Hid (R=.inl p):=by show _=_;rw[HU.out,hwn]
   clear hwn HU
   first|exact⟨rfl,PE.bad e2.out (S4.out.fb.trans bg)⟩|(go_wp2_with fail;exact⟨rfl,PE.bad e2.out (S4.out.fb.trans bg)⟩)
  rintro e w4' ⟨bg,rfl,ir⟩;have N2:=aa (bU OK.out (by simp) hwn);have S4':=aa (S4.out.after jQ rj bg ir);clear bg ir kL;have kL:=S4'.out.lb.cells;have CL:Hid (∀W,Lq W B r2->Calls prog 118 #[lv B,.int .i64 6] W fun e w'=>PE (m+1) B W (vT M 6 r2) e w'):=fun W q=>nt HM.out HG.out 6 q (by have:=N2.out.2;have:=aJ.out;omega);unfold lv at CL;go_wp2_with(go_at_call 118;refine ak.out ?_)
  refine ak.mk ?_;refine(CL.out _ (S4'.out.lq N2.out.1)).mono ?_;rcases hc:vT M 6 r2 with p|x
  ·rintro e w5 ⟨bg,rfl⟩
   have e2:Hid (R=.inl p):=by show _=_;rw[HU.out,hwn];exact hc
   clear hc HU hwn
   first|exact⟨rfl,PE.bad e2.out (S4'.out.fb.trans bg)⟩|(go_wp2_with fail;exact⟨rfl,PE.bad e2.out (S4'.out.fb.trans bg)⟩)
  rintro e w5 ⟨bg,q,rfl,iy,ir⟩;have e2:Hid (R=.inr x):=by show _=_;rw[HU.out,hwn];exact hc
  obtain⟨a,mm,c,a',m',c',a2,m2,c2,a3,m3,c3,aK⟩:=iy.rd.shape;subst aK;have K5:=aa iy;have rh:=S4'.out.fb.size;have AP:=bg.size;have EC:=S4'.out.ex.lt;have S5:=aa (S4'.out.after jQ rj bg ir);clear bg ir iy kL hc HU hwn;have kz:=S5.out.ex.cells;have kf:=S5.out.ex.frz;have kl:=S5.out.ex.lt;unfold ecl;go_wp2_with fail
  refine bodyPost_ret (v:=.agg (ecl (ehd (m+1) x.1) ⟨.slice a mm c,.slice a' m' c',.slice a2 m2 c2,.slice a3 m3 c3⟩)) (by simp[results,Tryz.results61,go_sem,ecl,lf,zs,vz,vH,aI,aR, *]) rfl (PE.good (n:=m+1) (x:=x) e2.out ?_ ?_ ?_)
  ·(iterate 13(refine FB.set ?_ (by omega)))
   exact S5.out.fb
  ·refine KE.fin (s:=w4'.heap.size) (e:=w5.heap.size) ?_ (by omega)
   (iterate 13(refine KE.set ?_ (by omega)))
   exact K5.out
  (iterate 13(refine TQ.set ?_ (by omega)))
  exact S5.out.tq
 rw[if_neg n5]at hu;have m5:=fE (m:=[99,97,115,101]) (fun q=>n5 (co (hS.trans q)));by_cases n6:bj t=[99,111,110,115,116]
 ·have sW:S=⟨#[99,111,110,115,116]⟩:=by rw[<-hS,n6];rfl
  have OK:=aa (eS.out (by rw[n6];simp));rw[if_pos n6]at hu;have HU:=aa hu;subst sW;clear hS hu n6 n0 n1 n2 n3 n4 n5;obtain⟨t',r',Ic⟩:=OK.out.cons;have CL:Hid (∀W,Lq W B r->Calls prog 119 #[lv B] W fun e w'=>Rp B W (qS r) e w'):=fun W q=>by have Sg:=Nj.out t' r' Ic OK.out;have q':=q.tq;rw[Ic]at q' ⊢;exact Bt HPar.out q' Sg
  unfold lv at CL;go_wp2_with(go_at_call 119;refine ak.out ?_)
  refine ak.mk ?_;refine(CL.out _ (S4.out.lq OK.out)).mono ?_;rcases hc:qS r with p|v
  ·rintro e w5 ⟨bg,rfl⟩
   have e2:Hid (R=.inl p):=by show _=_;rw[HU.out,hc]
   clear hc HU
   first|exact⟨rfl,PE.bad e2.out (S4.out.fb.trans bg)⟩|(go_wp2_with fail;exact⟨rfl,PE.bad e2.out (S4.out.fb.trans bg)⟩)
  rintro e w5 ⟨bg,rfl,ir⟩;have e2:Hid (R=.inr ((⟨7,aR,[],1,v.1⟩,[]),v.2)):=by show _=_;rw[HU.out,hc]
  have bf:=aa (fun W=>Qz hc W);have rh:=S4.out.fb.size;have AP:=bg.size;have S5:=aa (S4.out.after jQ rj bg ir);clear bg ir kL hc HU;have kz:=S5.out.ex.cells;have kf:=S5.out.ex.frz;have kl:=S5.out.ex.lt;unfold zS aP;go_wp2_with fail
  refine bodyPost_ret (v:=.agg (ecl (⟨7,aR,[],1,v.1⟩:Eh) zs)) (by simp[results,Tryz.results61,go_sem,ecl,zs,Rr,aR, *]) rfl (PE.good (n:=m+1) (x:=((⟨7,aR,[],1,v.1⟩,[]),v.2)) e2.out ?_ ?_ ?_)
  ·(iterate 13(refine FB.set ?_ (by omega)))
   exact S5.out.fb
  ·exact sy _ rfl (fun W'=>bf.out W') (by simp only[World.size_setCell];omega)
  (iterate 13(refine TQ.set ?_ (by omega)))
  exact S5.out.tq
 rw[if_neg n6]at hu;have m6:=fE (m:=[99,111,110,115,116]) (fun q=>n6 (co (hS.trans q)));have PL:Hid (∀W,Gp W->Calls prog 120 #[dO t] W fun e w'=>Ro W (Dq (bj t)) t.p e w'):=fun W g=>qE t W g;unfold dO at PL;have HU:=aa hu;have kt:=Tb.cell2 S4.out.tb;have XL:=aa hS;clear hu hS n0 n1 n2 n3 n4 n5 n6;go_wp2_with(go_at_call 120;refine ak.out ?_)
 refine ak.mk ?_;refine(PL.out _ S4.out.gp).mono ?_;rcases hc:Dq (bj t)with _|op
 ·rintro e w5 ⟨bg,rfl⟩
  have e2:Hid (R=.inl t.p):=by show _=_;rw[HU.out,hc]
  clear hc HU
  first|exact⟨rfl,PE.bad e2.out (S4.out.fb.then bg)⟩|(go_wp2_with fail;exact⟨rfl,PE.bad e2.out (S4.out.fb.then bg)⟩)
 rintro e w5 ⟨bg,rfl⟩;have e2:Hid (R=.inr ((lf op,[]),r)):=by show _=_;rw[HU.out,hc]
 have rh:=S4.out.fb.size;have AP:=bg.size;have S5:=aa (S4.out.below jQ rj bg);clear bg kL hc HU kt;have kz:=S5.out.ex.cells;have kf:=S5.out.ex.frz;have kl:=S5.out.ex.lt;rw[show ecl (lf op) zs=#[.int .i64 op,.string ⟨#[]⟩,.slice none 0 0,.slice none 0 0,.int .i64 0,.bool false,.bool false,.string ⟨#[]⟩,.int .i64 0,.int .u64 0,.string ⟨#[]⟩,.slice none 0 0,.slice none 0 0]from rfl];go_wp2_with fail
 refine bodyPost_ret (v:=.agg (ecl (lf op) zs)) (by simp[results,Tryz.results61,go_sem,ecl,lf,zs,vz,vH,aI,aR, *]) rfl (PE.good (n:=m+1) (x:=((lf op,[]),r)) e2.out ?_ ?_ ?_)
 ·(iterate 13(refine FB.set ?_ (by omega)))
  exact S5.out.fb
 ·exact sy _ rfl uy (by simp only[World.size_setCell];omega)
 (iterate 13(refine TQ.set ?_ (by omega)))
 exact S5.out.tq
theorem E2.one{n L s0:Nat}{W:World}{x:ET n}{q:Sl}(h:KE n W x q s0 W.heap.size)(hL:L<=s0):E2 n L (W.alloc (.cells (ecl (ehd n x) q) 33)) (.slice none 0 0) (.slice (some ⟨W.heap.size,0,none⟩) 1 1) [] [x] (ecl (ehd n x) q).toList:=by
 have hs:=h.1;refine⟨World.ownsRow_nil _ _ _ _,⟨rfl,Or.inr ⟨W.heap.size,1,ecl (ehd n x) q,rfl,by omega,heap_alloc_new W _,Nat.le_refl _,by decide,rfl,rfl⟩⟩,fun j hj=>?_⟩;have Nr:j=0:=by simp at hj;omega
 subst Nr;refine⟨q,s0,W.heap.size,h.al,hL,fun g hg=>?_,fun r u hr=>?_⟩
 ·rcases hg with hg|hg
  ·cases hg;exact Or.inr (Nat.le_refl _)
  cases hg
 simpa using hr
theorem E2.elt{n L:Nat}{W:World}{nv v:Value}{nms:List ByteArray}{l:List (ET n)}{us:List Value}(h:E2 n L W nv v nms l us)(j:Nat)(hj:j<l.length):∃b c q s e,v=.slice (some ⟨b,0,none⟩) l.length c/\L<=b/\b<W.heap.size/\W.rangeAt b (j*13) (ecl (ehd n l[j]) q).toList/\KE n W l[j] q s e/\L<=s:=by
 have ho:=h.row;obtain⟨q,s,e,k1,k2,_,k4⟩:=h.all j hj;rcases id ho.2 with⟨_,e0⟩|⟨g,cap,cur,e1,h2,h3,h4,h5,h6,h7⟩
 ·omega
 refine⟨g,cap,q,s,e,e1,h2,(Array.getElem?_eq_some_iff.1 h3).1,fun r u hr=>?_,k1,k2⟩;have hu:=k4 r u hr;rw[<-h7,List.getElem?_take]at hu;unfold World.cell?;rw[h3]
 split at hu
 ·simpa using hu
 cases hu
theorem bJ{W:World}{b o:Nat}{h:Eh}{q:Sl}(k:W.rangeAt b o (ecl h q).toList):W.cell? ⟨b,o,none⟩=some (.int .i64 h.op)/\W.cell? ⟨b,o+1,none⟩=some (.string h.name)/\W.cell? ⟨b,o+2,none⟩=some q.ns/\W.cell? ⟨b,o+3,none⟩=some q.ls/\W.cell? ⟨b,o+4,none⟩=some (.int .i64 (aI h.vn h.val).kind)/\W.cell? ⟨b,o+5,none⟩=some (.bool (aI h.vn h.val).flag)/\W.cell? ⟨b,o+6,none⟩=some (.bool (aI h.vn h.val).neg)/\W.cell? ⟨b,o+7,none⟩=some (.string (aI h.vn h.val).dig)/\W.cell? ⟨b,o+8,none⟩=some (.int .i64 (aI h.vn h.val).exp)/\W.cell? ⟨b,o+9,none⟩=some (.int .u64 (aI h.vn h.val).bits)/\W.cell? ⟨b,o+10,none⟩=some (.string (aI h.vn h.val).text)/\W.cell? ⟨b,o+11,none⟩=some q.vs/\W.cell? ⟨b,o+12,none⟩=some q.vl :=
 ⟨k 0 _ rfl,k 1 _ rfl,k 2 _ rfl,k 3 _ rfl,k 4 _ rfl,k 5 _ rfl,k 6 _ rfl,k 7 _ rfl,k 8 _ rfl,k 9 _ rfl,k 10 _ rfl,k 11 _ rfl,k 12 _ rfl⟩
def Qv{m:Nat}:Sum Int (List (ET m)×List Tk)->Sum Int (ET (m+1)×List Tk)
 | .inl p=>.inl p
 | .inr y=>.inr (pL y.1,y.2)
theorem Hi{m:Nat}{S:List Tk->Sum Int (ET m×List Tk)}{l:List Tk}{x:ET m×List Tk}(h:S l=.inr x):jH S l=Qv (gM S l.length [x.1] x.2):=by unfold jH;rw[h];show(match gM S l.length [x.1] x.2 with | .inl p=>_ | .inr y=>_)=_;cases gM S l.length [x.1] x.2<;>rfl
structure MI(n B f:Nat)(S:List Tk->Sum Int (ET n×List Tk))(w:World)(R:Sum Int (List (ET n)×List Tk))(W:World)(v:Value)(acc:List (ET n))(l:List Tk):Prop where
 fuel:∃g,l.length<=g/\gM S g acc l=R
 lq:Lq W B l
 lb:LB W w.heap.size B
 ex:Ex W (w.heap.size+1) ze zs
 fb:FB B w W
 row:∃us,E2 n (w.heap.size+2) W (.slice none 0 0) v [] acc us
 few:acc.length+l.length<=100000/\l.length<=f/\1<=acc.length
theorem KF{m:Nat}(l:List (ET m))(h:l.length≠1):pL l=((lf 12,l):ET (m+1)):=by
 match l,h with
 | [],_=>rfl
 | [_],h=>exact absurd rfl h
 |_::_::_,_=>rfl
theorem ol{m f:Nat}{S:List Tk->Sum Int (ET m×List Tk)}(hS:vK m 61 S f)(hG:Gd S):vK (m+1) 26 (jH S) f:=by
 intro w B l h hl;have jQ:=h.tq.sz;have zo:l.length<=100000:=by obtain⟨a,c,_,_,_,_⟩:=h.tq;omega
 have H:=aa h;have HS:=aa hS;have HG:=aa hG;have ZL:=aa (gO w B);have Z0:=aa (jY (w.alloc (.cells #[.func (.func 114) #[] #[.pointer (some ⟨B,0,none⟩)],.func (.func 115) #[] #[.pointer (some ⟨B,0,none⟩)]] 83)));rw[World.size_alloc]at Z0;have aQ:w.heap.size+1≠B:=by omega
 have dS:w.heap.size≠B:=by omega
 obtain⟨R,hR⟩:∃R,jH S l=R:=⟨_,rfl⟩
 rw[hR];have HR:=aa hR;have ll:Hid (∀w',Below w.heap.size w w'->Calls prog 61 #[lv B] w' fun e w''=>PE m B w' (S l) e w''):=fun w' hb=>hS w' B l (h.below hb) hl;clear hR h hS hG;unfold lv at ll ⊢;go_enter func26,ntmps26;go_wp2_with(go_at_call 61;refine ak.out ?_)
 refine ak.mk ?_;refine(ll.out _ (ab (ab af))).mono ?_;rcases hx:S l with p|x
 ·rintro e w3 ⟨ar,rfl⟩
  have e2:Hid (R=.inl p):=by show _=_;rw[<-HR.out];unfold jH;rw[hx]
  clear hx HR
  first|exact⟨rfl,PE.bad e2.out ((FB.of (ab (ab af))).trans ar)⟩|(go_wp2_with fail;exact⟨rfl,PE.bad e2.out ((FB.of (ab (ab af))).trans ar)⟩)
 rintro e w3 ⟨ar,q,rfl,AV,dC⟩;have N1:=aa (HG.out _ _ H.out.ok hx);obtain⟨a,mm,c,a',m',c',a2,m2,c2,a3,m3,c3,aK⟩:=AV.rd.shape;subst aK;have mr:=ar.size;simp only[World.size_alloc]at mr;obtain⟨R2,mv⟩:∃R2,gM S l.length [x.1] x.2=R2:=⟨_,rfl⟩
 have HU:Hid (R=Qv R2):=by show _=_;rw[<-HR.out,<-mv];exact Hi hx
 have I3:Hid (MI m B f S w R2 (w3.alloc (.cells (ecl (ehd m x.1) ⟨.slice a mm c,.slice a' m' c',.slice a2 m2 c2,.slice a3 m3 c3⟩) 33)) (.slice (some ⟨w3.heap.size,0,none⟩) 1 1) [x.1] x.2):=by
  have e1:=(H.out.below (ab (o:=.cells #[.func (.func 114) #[] #[.pointer (some ⟨B,0,none⟩)],.func (.func 115) #[] #[.pointer (some ⟨B,0,none⟩)]] 83) af)).al.fb ar dC N1.out.1;refine⟨⟨l.length,Nat.le_of_lt N1.out.2,mv⟩,e1.al,(((ZL.out.below (ab af)).fb ar dS)).below (ab af),(Z0.out.fb ar aQ).below (ab af),((FB.of (ab (ab af))).trans ar).al,⟨_,E2.one (by simpa using AV) (by omega)⟩,?_,?_,?_⟩
  ·have:=N1.out.2;simp;omega
  ·have:=N1.out.2;omega
  simp
 clear hx HR mv AV ar dC ll ZL Z0 H zo hl;unfold ecl;simp only[ecl]at I3;go_wp2_with fail
 go_loopw [3] (fun v w'=>∃acc l',Hid (MI m B f S w R2 w' v acc l')) (fun _ w'=>lenB w' B)
 case atStart=>exact⟨[x.1],x.2,I3.out⟩
 case round=>
  obtain⟨acc,l1,HI⟩:=hrel;clear I3;obtain⟨⟨g,hg,JC⟩,xy,ic,vk,JD,⟨us,hE⟩,pU,jD,nk⟩:=HI.out;have ti:B<w.heap.size+2:=by omega
  obtain⟨_,_,a',c',_,e2⟩:=hE.shape;obtain⟨N,hN⟩:∃N,acc.length=N:=⟨_,rfl⟩
  rw[hN]at e2 pU nk;subst e2;have h1:0<l1.length:=by obtain⟨t,r,rfl⟩:=xy.ok.cons;simp
  obtain⟨g,rfl⟩:∃g',g=g'+1:=⟨g-1,by omega⟩
  have Hlen:=aa xy.tq.lenB;have jW:=fI (m:=[59]) xy.ok (by simp);have HH:Hid (∀w',Lq w' B l1->Calls prog 62 #[lv B,.string ⟨#[59]⟩] w' fun e w''=>e=.returned (.bool (cq [59] l1).1)/\TQ w'' B (cq [59] l1).2/\FB B w' w''):=fun w' hq=>kI [59] hq;unfold lv at HH;have LQ:=aa xy;have FBw:=aa JD;have HE:=aa hE;have LBw:=aa ic;have EXw:=aa vk;have kL:=ic.cells;have HN:=aa hN;have HF2:=aa jD;have hN200:N<=200000:=by omega
  have HF1:=aa pU;have FU:=aa JC;have Ms:=aa hg;clear HI JC xy JD hE ic vk jD hg hN pU;go_wp2_with(go_at_call 62;refine ak.out ?_)
  refine ak.mk ?_;refine(HH.out _ LQ.out).mono ?_;rintro e w4 ⟨rfl,vd,aO⟩;rcases hh:(cq [59] l1).1 with _|_
  ·-- the end of the steps
   have e3:Hid (R2=.inr (acc,(cq [59] l1).2)):=by show _=_;rw[<-FU.out];unfold gM;rw[hh];rfl
   have e4:Hid (R=.inr (pL acc,(cq [59] l1).2)):=by show _=_;rw[HU.out,e3.out];rfl
   have E4:=aa (HE.out.fb aO ti);have X4:=aa (EXw.out.fb aO aQ);have F4:=aa (FBw.out.trans aO);have HQ4:=aa vd;clear FU hh jW aO vd LQ HE EXw FBw LBw kL HH HU e3;by_cases Nz:N=1
   ·obtain⟨y,hy⟩:∃y,acc=[y]:=by
     match acc,(HN.out.trans Nz)with
     | [y],_=>exact⟨y,rfl⟩
    have bN:((N:Int)==1)=true:=by simp;omega
    have b0:(0:Int)<(N:Int):=by omega
    have HN1:=aa Nz;clear Nz;subst hy;obtain⟨b,c2,q,s,e,he,WY,cQ,bT,ox,TF⟩:=E4.out.elt 0 (by simp);have cy:=Value.slice.inj he;obtain⟨rfl,_,rfl⟩:=cy;obtain⟨a5,m5,c5,a6,m6,c6,a7,m7,c7,a8,m8,c8,rfl⟩:=ox.rd.shape;have VL:=bJ bT;simp only[List.getElem_cons_zero,Nat.zero_mul,Nat.zero_add]at VL ox;have K4:=aa ox;have kz:=X4.out.cells;have kf:=X4.out.frz;have kl:=X4.out.lt;have rh:=F4.out.size;have HBB:=aa (And.intro TF (And.intro ox.1 ox.2.1));clear WY TF;clear he bT ox HN hN200 HF1 HF2 nk Hlen Ms h1;go_wp2_with fail
    refine bodyPost_ret (v:=.agg (ecl (ehd m y) ⟨.slice a5 m5 c5,.slice a6 m6 c6,.slice a7 m7 c7,.slice a8 m8 c8⟩)) (by simp[results,Tryz.results26,go_sem,ecl, *]) rfl (PE.upp (x:=(y,(cq [59] l1).2)) e4.out ?_ ?_ ?_)
    ·(iterate 13(refine FB.set ?_ (by omega)))
     exact F4.out
    ·refine KE.fin (s:=s) (e:=e) ?_ (by have:=HBB.out;omega)
     obtain⟨TF,_,_⟩:=HBB.out
     (iterate 13(refine KE.set ?_ (by omega)))
     exact K4.out
    (iterate 13(refine TQ.set ?_ (by omega)))
    exact HQ4.out
   have e5:Hid (R=.inr ((lf 12,acc),(cq [59] l1).2)):=by show _=_;rw[e4.out,KF acc (by rw[HN.out];exact Nz)]
   have bN:((N:Int)==1)=false:=by simp;omega
   have bN2:¬((N:Int)=1):=by omega
   have kz:=X4.out.cells;have kf:=X4.out.frz;have kl:=X4.out.lt;have rh:=F4.out.size;have HNn:=aa Nz;clear hN200 HF1 HF2 nk Hlen Ms h1 e4 Nz;go_wp2_with fail
   refine bodyPost_ret (v:=.agg (ecl (lf 12) ⟨.slice none 0 0,.slice a' N c',.slice none 0 0,.slice none 0 0⟩)) (by simp[results,Tryz.results26,go_sem,ecl,lf,vz,vH,aI,aR, *]) rfl (PE.good (n:=m+1) (x:=((lf 12,acc),(cq [59] l1).2)) e5.out ?_ ?_ ?_)
   ·(iterate 13(refine FB.set ?_ (by omega)))
    exact F4.out
   ·refine KE.fin (s:=w.heap.size+2) (e:=w4.heap.size) ?_ (by omega)
    (iterate 13(refine KE.set ?_ (by omega)))
    exact Ea E4.out 12 (Nat.le_refl _) (by omega)
   (iterate 13(refine TQ.set ?_ (by omega)))
   exact HQ4.out
  have N2:=aa (jW.1 hh).1;have Q4:=aa (LQ.out.fb aO vd N2.out);have N2l:=aa (jW.1 hh).2;have E4:=aa (HE.out.fb aO ti);have L4:=aa (LBw.out.fb aO dS);have X4:=aa (EXw.out.fb aO aQ);have F4:=aa (FBw.out.trans aO);clear jW aO vd LQ HE LBw EXw FBw kL HH;obtain⟨l2,bq⟩:∃l2,(cq [59] l1).2=l2:=⟨_,rfl⟩
  rw[bq]at N2 Q4 N2l;have kL:=L4.out.cells;have HI:Hid (∀w',Lq w' B l2->Calls prog 61 #[lv B] w' fun e w''=>PE m B w' (S l2) e w''):=fun w' q=>HS.out w' B l2 q (by have:=N2l.out;have:=HF2.out;omega);unfold lv at HI;go_wp2_with(go_at_call 61;refine ak.out ?_)
  refine ak.mk ?_;refine(HI.out _ Q4.out).mono ?_;rcases hx:S l2 with p|x2
  ·rintro e w5 ⟨bg,rfl⟩
   have e2:Hid (R=.inl p):=by show _=_;rw[HU.out,<-FU.out];unfold gM;rw[if_pos hh,bq,hx];rfl
   clear FU hx hh bq
   first|exact⟨rfl,PE.bad e2.out (F4.out.trans bg)⟩|(go_wp2_with fail;exact⟨rfl,PE.bad e2.out (F4.out.trans bg)⟩)
  rintro e w5 ⟨bg,q5,rfl,iy,ir⟩;have N3:=aa (HG.out _ _ N2.out hx);have e2:Hid (gM S g (acc++[x2.1]) x2.2=R2):=by
   show _=_;rw[<-FU.out]
   conv=>rhs;unfold gM
   rw[if_pos hh,bq,hx]
  have K5:=aa iy;obtain⟨b1,b2,b3,b4,b5,b6,b7,b8,b9,b10,b11,b12,aK⟩:=iy.rd.shape;subst aK;have Q5:=aa (Q4.out.fb bg ir N3.out.1);have vN:=aa (E4.out.lt);have E5:=aa (E4.out.fb bg ti);have L5:=aa (L4.out.fb bg dS);have X5:=aa (X4.out.fb bg aQ);have F5:=aa (F4.out.trans bg);have kz5:=bg.size;have kz4:=F4.out.size;have kz6:=X4.out.lt;clear bg ir iy Q4 E4 L4 X4 F4 kL HI FU hx hh bq;unfold ecl;go_wp2_with(at_builtin;refine ak.out ?_)
  refine ak.mk ?_;refine tI rfl (.tmp 9) (.tmp 12) rfl (w.heap.size+2) (.slice a' N c') N us rfl (rV E5.out.al.row HN.out) w5.heap.size 1 rfl (ehd m x2.1) ⟨.slice b1 b2 b3,.slice b4 b5 b6,.slice b7 b8 b9,.slice b10 b11 b12⟩ rfl rfl rfl rfl ((bC _ _ _).range) hN200 (by rw[World.size_alloc];have:=F5.out.size;omega) ?_;intro av2 cv2 w6 o6 g6 at6;have Pq:=E5.out.lt;have E6:=aa (E5.out.al.push HN.out K5.out.al (by omega) (fun g hg=>(vN.out g hg).2) g6.out o6.out at6.out);have Q6:=aa (Q5.out.al.grown g6.out (fun g hg=>by have:=(Pq g (Or.inl hg)).1;omega));have L6:=aa ((L5.out.below (ab af)).grown g6.out (fun g hg=>by have:=(Pq g (Or.inl hg)).1;omega));have X6:Hid (Ex w6 (w.heap.size+1) ze zs):=⟨(g6.out.block _ (by have:=X5.out.lt;rw[World.size_alloc];omega) (fun e=>by have:=(Pq _ (Or.inl e.symm)).1;omega)).trans (X5.out.below (ab af)).at_⟩
  have F6:=aa (F5.out.al.grown g6.out (fun g hg=>by have:=(Pq g (Or.inl hg)).1;omega));clear o6 g6 at6 Pq vN E5 Q5 L5 X5 F5 K5;go_wp2_with fail
  have z2:=N2l.out;have z3:=N3.out.2;have zg:=Ms.out;have zf1:=HF1.out;have zf2:=HF2.out;refine⟨⟨acc++[x2.1],x2.2,⟨⟨g,by omega,e2.out⟩,Q6.out,L6.out,X6.out,F6.out,⟨_,E6.out⟩,?_,?_,?_⟩⟩,?_⟩
  ·rw[List.length_append,List.length_singleton,HN.out];omega
  ·omega
  ·rw[List.length_append,List.length_singleton];omega
  rw[Hlen.out,Q6.out.tq.lenB];omega
theorem yw(hP:aW):∀f,vK (dp f) 61 (BO f) f
 |0=>by intro w B l h hl;obtain⟨t,r,rfl⟩:=h.ok.cons;simp at hl
 |f+1=>by intro w B l h hl;exact CH (m:=dp f+1) (M:=jH (BO f)) hP (ol (yw hP f) (kc f)) (sq (kc f)) h hl
theorem wY(hP:aW)(f:Nat):vK (dp f+1) 26 (jH (BO f)) f:=ol (yw hP f) (kc f)
def dN:(n:Nat)->ET n->Nat
 |0,_=>0
 |n+1,x=>1+jl (x.2.map (dN n))
def aM:(n:Nat)->ET n->Nat
 |0,_=>0
 |n+1,x=>1+aA (x.2.map (aM n))
theorem nr:∀(n:Nat) (x:ET n),dN n x<=aM n x
 |0,x=>Empty.elim x
 |n+1,x=>by simp only[dN,aM];have:=wX (l:=x.2.map (dN n)) (m:=x.2.map (aM n)) (fun i h1 h2=>by simp only[List.getElem_map];exact nr n _) (by simp);omega
theorem iZ{n:Nat}{x:ET (n+1)}{i:Nat}(h:i<x.2.length):aM n x.2[i]<aM (n+1) x:=by have:=iO (l:=x.2.map (aM n)) (i:=i) (by simpa using h);simp only[List.getElem_map]at this;simp only[aM];omega
theorem xU:∀(n:Nat) (x:ET n) (q:Sl) (w:World),RE n w x q->aM n x<=200000 ->
  Calls prog 40 #[.agg (ecl (ehd n x) q)] w fun e w'=>e=.returned (.int .i64 (dN n x))/\Below w.heap.size w w':=by
 intro n
 induction n with
 |zero=>intro x;exact Empty.elim x
 |succ n ih=>
  intro x q w hr hs;obtain⟨h,l⟩:=x;obtain⟨al,cl,cd,bB,br⟩:=hr.tl.len;obtain⟨x1,y1,z1,x2,y2,z2,x3,y3,z3,x4,y4,z4,aK⟩:=hr.shape;subst aK;obtain⟨rfl,rfl,rfl⟩:=Value.slice.inj cd;clear cd;have hr:=aa hr;have ih':=aa ih;have eK:=aa hs;clear ih hs;show Calls _ _ #[.agg #[.int .i64 h.op,.string h.name,.slice x1 y1 z1,.slice x2 l.length z2,.int .i64 (aI h.vn h.val).kind,.bool (aI h.vn h.val).flag,.bool (aI h.vn h.val).neg,.string (aI h.vn h.val).dig,.int .i64 (aI h.vn h.val).exp,.int .u64 (aI h.vn h.val).bits,.string (aI h.vn h.val).text,.slice x3 y3 z3,.slice x4 y4 z4]] _ _;go_enter func40,ntmps40;go_wp2_with fail
  go_loopw [3,9] (fun m i w'=>∃k:Nat,m=.int .i64 (jl ((l.map (dN n)).take k):Nat)/\i=.int .i64 k/\k<=l.length/\Hid (Below w.heap.size w w')) (fun _ i _=>l.length-(intOf i).toNat)
  case atStart=>exact⟨0,rfl,rfl,Nat.zero_le _,ab af⟩
  case round=>
   obtain⟨k,rfl,rfl,hk,hb⟩:=hrel;have ml:maxLen=9223372036854775807:=rfl;have cR:(k:Int)<=9223372036854775807:=by omega
   by_cases aE:k<l.length
   ·obtain⟨b,o,c,he,cQ,gq,iE,q',bT,bf⟩:=hr.out.tl.at k aE
    have cy:=Value.slice.inj he;obtain⟨rfl,_,rfl⟩:=cy;clear he;have bF:(k:Int)<(l.length:Int):=by omega
    have cR:(k:Int)<9223372036854775807:=by omega
    have nh:=am bT hb.out cQ;obtain⟨u1,v1,w1,u2,v2,w2,u3,v3,w3,u4,v4,w4,aK⟩:=bf.shape;subst aK;have c0:=bJ nh;clear nh;have cA:=aa (bf.below hb.out);clear bT bf;have jo:aM n l[k]<=200000:=by have h1:=iZ (x:=(h,l)) aE;have h2:=eK.out;simp only at h1;omega
    obtain⟨D,hD⟩:∃D,dN n l[k]=D:=⟨_,rfl⟩
    have eL:=mV (l.map (dN n)) k (by simpa using aE);rw[List.getElem_map,hD]at eL;have hcall:=aa (fun o=>ih'.out l[k] ⟨.slice u1 v1 w1,.slice u2 v2 w2,.slice u3 v3 w3,.slice u4 v4 w4⟩ (wr.alloc o) (cA.out.below (ab af)) jo);rw[hD]at hcall;obtain⟨M,hM⟩:∃M,jl ((l.map (dN n)).take k)=M:=⟨_,rfl⟩
    rw[hM]at eL ⊢;have ea:=aa eL;have jP:=aa hD;have UJ:=aa hM;clear hD hM jo eL;rcases Nat.lt_trichotomy M D with bm|bm|bm
    ·have jE:(M:Int)<(D:Int):=by omega
     have Mk:¬((D:Int)<(M:Int)):=by omega
     go_wp2_with(go_at_call 40;refine(hcall.out _).mono ?_;rintro e w1 ⟨rfl,ai⟩)
     exact⟨⟨k+1,by rw[ea.out];congr 2;omega,by go_num,by omega,ac (ab hb.out) ai⟩,by simp[intOf];omega⟩
    ·subst bm
     have jE:¬((M:Int)<(M:Int)):=by omega
     go_wp2_with(go_at_call 40;refine(hcall.out _).mono ?_;rintro e w1 ⟨rfl,ai⟩)
     exact⟨⟨k+1,by rw[ea.out];congr 2;omega,by go_num,by omega,ac (ab hb.out) ai⟩,by simp[intOf];omega⟩
    have jE:(D:Int)<(M:Int):=by omega
    have Mk:¬((M:Int)<(D:Int)):=by omega
    go_wp2_with(go_at_call 40;refine(hcall.out _).mono ?_;rintro e w1 ⟨rfl,ai⟩)
    exact⟨⟨k+1,by rw[ea.out];congr 2;omega,by go_num,by omega,ac (ab hb.out) ai⟩,by simp[intOf];omega⟩
   have bF:¬((k:Int)<(l.length:Int)):=by omega
   have jK:k=l.length:=by omega
   have hD:dN (n+1) (h,l)=1+jl ((l.map (dN n)).take k):=by simp only[dN];rw[List.take_of_length_le (by simp;omega)]
   have cC:1+jl ((l.map (dN n)).take k)<=200000:=by rw[<-hD];exact Nat.le_trans (nr _ _) eK.out
   obtain⟨M,hM⟩:∃M,jl ((l.map (dN n)).take k)=M:=⟨_,rfl⟩
   rw[hM]at cC hD ⊢;have jP:=aa hD;clear hD hM jK;have TC:(M:Int)<200000:=by omega
   clear cC;go_wp2_with fail
   go_ret;exact⟨by rw[jP.out];exact il (by omega),hb.out⟩
theorem Bm:∀(n:Nat) (x:ET n) (q:Sl) (w:World),RE n w x q->aM n x<=200000 ->
  Calls prog 41 #[.agg (ecl (ehd n x) q)] w fun e w'=>e=.returned (.int .i64 (aM n x))/\Below w.heap.size w w':=by
 intro n
 induction n with
 |zero=>intro x;exact Empty.elim x
 |succ n ih=>
  intro x q w hr hs;obtain⟨h,l⟩:=x;obtain⟨al,cl,cd,bB,br⟩:=hr.tl.len;obtain⟨x1,y1,z1,x2,y2,z2,x3,y3,z3,x4,y4,z4,aK⟩:=hr.shape;subst aK;obtain⟨rfl,rfl,rfl⟩:=Value.slice.inj cd;clear cd;have hr:=aa hr;have ih':=aa ih;have eK:=aa hs;clear ih hs;show Calls _ _ #[.agg #[.int .i64 h.op,.string h.name,.slice x1 y1 z1,.slice x2 l.length z2,.int .i64 (aI h.vn h.val).kind,.bool (aI h.vn h.val).flag,.bool (aI h.vn h.val).neg,.string (aI h.vn h.val).dig,.int .i64 (aI h.vn h.val).exp,.int .u64 (aI h.vn h.val).bits,.string (aI h.vn h.val).text,.slice x3 y3 z3,.slice x4 y4 z4]] _ _;go_enter func41,ntmps41;go_wp2_with fail
  go_loopw [3,9] (fun m i w'=>∃k:Nat,m=.int .i64 (1+aA ((l.map (aM n)).take k):Nat)/\i=.int .i64 k/\k<=l.length/\Hid (Below w.heap.size w w')) (fun _ i _=>l.length-(intOf i).toNat)
  case atStart=>exact⟨0,rfl,rfl,Nat.zero_le _,ab af⟩
  case round=>
   obtain⟨k,rfl,rfl,hk,hb⟩:=hrel;have ml:maxLen=9223372036854775807:=rfl;have cR:(k:Int)<=9223372036854775807:=by omega
   obtain⟨M,hM⟩:∃M,1+aA ((l.map (aM n)).take k)=M:=⟨_,rfl⟩
   have qb:M<=200000:=by have h1:=eo (l.map (aM n)) k;have h2:=eK.out;simp only[aM]at h2;omega
   by_cases aE:k<l.length
   ·obtain⟨b,o,c,he,cQ,gq,iE,q',bT,bf⟩:=hr.out.tl.at k aE
    have cy:=Value.slice.inj he;obtain⟨rfl,_,rfl⟩:=cy;clear he;have bF:(k:Int)<(l.length:Int):=by omega
    have cR:(k:Int)<9223372036854775807:=by omega
    have nh:=am bT hb.out cQ;obtain⟨u1,v1,w1,u2,v2,w2,u3,v3,w3,u4,v4,w4,aK⟩:=bf.shape;subst aK;have c0:=bJ nh;clear nh;have cA:=aa (bf.below hb.out);clear bT bf;have jo:aM n l[k]<=200000:=by have h1:=iZ (x:=(h,l)) aE;have h2:=eK.out;simp only at h1;omega
    obtain⟨D,hD⟩:∃D,aM n l[k]=D:=⟨_,rfl⟩
    have eL:=cZ (l.map (aM n)) k (by simpa using aE);rw[List.getElem_map,hD]at eL;have hcall:=aa (fun o=>ih'.out l[k] ⟨.slice u1 v1 w1,.slice u2 v2 w2,.slice u3 v3 w3,.slice u4 v4 w4⟩ (wr.alloc o) (cA.out.below (ab af)) jo);rw[hD]at hcall jo;have eL:1+aA ((l.map (aM n)).take (k+1))=M+D:=by omega
    rw[hM];have ea:=aa eL;have Cg:(D:Int)<=200000:=by omega
    have TD:(M:Int)<=200000:=by omega
    clear hD hM jo eL qb;go_wp2_with(go_at_call 41;refine(hcall.out _).mono ?_;rintro e w1 ⟨rfl,ai⟩)
    exact⟨⟨k+1,by rw[ea.out];first|rfl|(congr 1),by go_num,by omega,ac (ab hb.out) ai⟩,by simp[intOf];omega⟩
   have bF:¬((k:Int)<(l.length:Int)):=by omega
   have hD:aM (n+1) (h,l)=M:=by rw[<-hM];simp only[aM];rw[List.take_of_length_le (by simp;omega)]
   rw[hM];have jP:=aa hD;clear hD hM qb;go_wp2_with fail
   go_ret;exact⟨by rw[jP.out];rfl,hb.out⟩
end Lx
