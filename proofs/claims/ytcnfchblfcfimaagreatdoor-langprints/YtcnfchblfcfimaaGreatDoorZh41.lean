import Derived.Test.YtcnfchblfcfimaaGreatDoorZh37
set_option linter.all false
set_option maxHeartbeats 8000000
set_option maxRecDepth 100000
namespace Go.Proofs.YtcnfchblfcfimaaGreatDoor
open Proofs.Tryz RowKit
theorem NU:tL:=by
 intro s w hs;have hC:=aa (fun W=>Ut.rcount_any s W hs);go_enter func141,ntmps141;go_wp2_with fail
 refine(hC.out _).mono ?_;rintro x w1 ⟨⟨m,e,PX,rfl⟩,ai⟩;have PX:=aa PX;rcases PX.out with⟨h1,h2,rfl⟩|⟨h1,rfl,h3⟩
 ·have hk:=aa (show okT s=true from h1)
  clear h1 h2;go_wp2_with fail
  go_ret;exact⟨by rw[hk.out];first|rfl|simp,ai⟩
 have hk:=aa (show okT s=false from h1);have he:¬(e:Int)=0:=by omega
 clear h1 h3;go_wp2_with fail
 go_ret;exact⟨by rw[hk.out];first|rfl|(simp;omega),ai⟩
namespace Lx
open Go.RowKit Go.Maps
theorem Fs(n:Nat)(l:List (ET n)):l.length<=aA (l.map (dm n)):=by
 induction l with
 |nil=>simp[aA]
 |cons a l ih=>
  have:1<=dm n a:=Nat.le_trans (kM n a) (fL n a);simp only[List.map_cons,aA,List.length_cons];omega
theorem Iy(n:Nat)(l:List (ET n))(k:Nat)(h:k<l.length):dm n l[k]<=aA (l.map (dm n)):=iO (List.mem_map_of_mem (List.getElem_mem h))
theorem Ha{w1 W':World}{L:Nat}{nv:Value}{ns:List ByteArray}(ho:nA w1 L nv ns)(hb:∀g,L<=g->g<w1.heap.size->W'.heap[g]?=w1.heap[g]?):NL W' nv ns:=by
 have hr:=World.ownsRow.lt ho;have nR:=ho;obtain⟨h0,h1⟩:=ho;rcases h1 with⟨rfl,e⟩|⟨g,cap,cur,rfl,k1,k2,k3,k4,k5,k6⟩
 ·exact Or.inl ⟨rfl,List.eq_nil_of_length_eq_zero e⟩
 have hg:=(hr g rfl).2;have ii:=(hr g rfl).1;have hsame:W'.heap[g]?=w1.heap[g]?:=hb g ii hg;refine Or.inr ⟨g,0,cap,none,rfl,k3,k4,fun _=>⟨rfl,?_⟩,fun i hi=>?_⟩
 ·by_cases bm:g<W'.heap.size
  ·exact bm
  rw[k2,Array.getElem?_eq_none (by omega)]at hsame;cases hsame
 rw[Nat.zero_add,World.cell?_of_block (a:=⟨g,i,none⟩) hsame,World.ownsRow.cellAt nR i (by simpa using hi)];simp[tN,hi]
def ZE(W:World)(i:Nat):Prop:=W.heap[i]?=some (.cells #[.int .i64 0,.string ⟨#[]⟩,.slice none 0 0,.slice none 0 0,.int .i64 0,.bool false,.bool false,.string ⟨#[]⟩,.int .i64 0,.int .u64 0,.string ⟨#[]⟩,.slice none 0 0,.slice none 0 0] 33 (0,0))
theorem ZE.ex{W:World}{i:Nat}(h:ZE W i):Ex W i ze zs:=⟨h⟩
theorem Br:∀(n:Nat) (x:ET n) (q:Sl) (w:World),RE n w x q->dm n x<=200000 ->
  Calls prog 14 #[.agg (ecl (ehd n x) q)] w fun e w'=>∃q',e=.returned (.agg (ecl (ehd n x) q'))/\Hid (KE n w' x q' w.heap.size w'.heap.size)/\Below w.heap.size w w':=by
 intro n
 induction n with
 |zero=>intro x;exact Empty.elim x
 |succ n ih=>
  intro x q w hr kF;obtain⟨h,l⟩:=x;obtain⟨al,cl,cd,bB,br⟩:=hr.tl.len;obtain⟨an,cn,aQ,cm,df⟩:=hr.1.len;obtain⟨x1,y1,z1,x2,y2,z2,x3,y3,z3,x4,y4,z4,aK⟩:=hr.shape;subst aK;obtain⟨rfl,rfl,rfl⟩:=Value.slice.inj cd;obtain⟨rfl,rfl,rfl⟩:=Value.slice.inj aQ;clear cd aQ;simp only at cm df bB br;have hr:=aa hr;have ih':=aa ih;clear ih;have tT:h.names.length<=200000:=by simp only[dm]at kF;omega
  have cQ:l.length<=200000:=by have:=Fs n l;simp only[dm]at kF;omega
  have Uy:blk h.vn h.val<=200000:=by simp only[dm]at kF;omega
  have Qb:Hid (∀k (hk:k<l.length),dm n l[k]<=200000):=fun k hk=>by have:=Iy n l k hk;simp only[dm]at kF;omega
  have Uw:=aa (fun W (hb:Below w.heap.size w W)=>Fy h.vn h.val (.slice x3 y3 z3) (.slice x4 y4 z4) W (hr.out.2.1.below hb) Uy);clear kF Uy;show Calls _ _ #[.agg (ecl h ⟨.slice x1 h.names.length z1,.slice x2 l.length z2,.slice x3 y3 z3,.slice x4 y4 z4⟩)] _ _;have dM:=aa (ft w h ⟨.slice x1 h.names.length z1,.slice x2 l.length z2,.slice x3 y3 z3,.slice x4 y4 z4⟩);have ml:maxLen=9223372036854775807:=rfl;have kB:Hid (∃vv,aI h.vn h.val=vv):=⟨_,rfl⟩
  have c00:=dM.out.cells;unfold aP at Uw;unfold ecl at dM c00 ⊢;simp only at dM c00 ⊢;go_enter func14,ntmps14;go_wp2_with(at_builtin;refine rA rfl (.tmp 7) (.tmp 9) rfl rfl x1 _ z1 h.names rfl rfl (hr.out.1.below (ab (ab af))) (by omega) ?_;intro av c' w1 qr ai)
  have gD:Hid (w.heap.size+2<=w1.heap.size):=by have:=ai.out.size;simp at this;show _<=_;omega
  have cP:Hid (Below w.heap.size w w1):=(ab (ab af)).trans (ai.out.mono (by simp;omega));have Qg:Hid (Ex w1 w.heap.size h ⟨.slice x1 h.names.length z1,.slice x2 l.length z2,.slice x3 y3 z3,.slice x4 y4 z4⟩):=(dM.out.below (ab af)).below ai.out;have qO:Hid (ZE w1 (w.heap.size+1)):=by show _=_;rw[ai.out.block _ (by simp)];exact gR (by simp)
  have tU:Hid (nA w1 (w.heap.size+2) (.slice av h.names.length c') h.names):=by have:=qr.out;simp at this;exact this
  clear dM qr ai c00;go_loopw [4,5] (fun u i w'=>∃(k:Nat) (lav:Option Addr) (lc:Nat),i=.int .i64 k/\u=.slice lav k lc/\k<=l.length/\Hid (ER n w1.heap.size w' u (l.take k)/\Below w1.heap.size w1 w')) (fun _ i _=>l.length-(intOf i).toNat)
  case atStart=>exact⟨0,none,0,rfl,rfl,Nat.zero_le _,by simpa using ER.nil,af⟩
  case round=>
   obtain⟨k,lav,lc,rfl,rfl,hk,H⟩:=hrel;have hX:=aa (Qg.out.below H.out.2);obtain⟨_,_,c2,c3,_⟩:=hX.out.cells;by_cases aE:k<l.length
   ·have bF:(k:Int)<(l.length:Int):=by omega
    have Ra:(l.take k).length=k:=by simp;omega
    obtain⟨b,o,c,he,md,gq,iE,q',bT,bf⟩:=hr.out.tl.at k aE;have cy:=Value.slice.inj he;obtain⟨rfl, -,rfl⟩:=cy;clear he;have Pf:Hid (Below w.heap.size w wr):=cP.out.trans (H.out.2.mono (by have:=gD.out;omega));have r0:=bJ (am bT Pf.out md);have Ib:=aa (bf.below Pf.out);obtain⟨b1,b2,b3,b4,b5,b6,b7,b8,b9,b10,b11,b12,aK⟩:=Ib.out.shape;subst aK;have cal:=aa (ih'.out l[k] _ wr Ib.out (Qb.out k aE));obtain⟨y,hy⟩:∃y,ehd n l[k]=y:=⟨_,rfl⟩
    have gx:=aa hy;simp only at r0;rw[hy]at r0 cal;unfold ecl at cal;simp only at cal;clear bT bf hy;obtain⟨xs,hx,dU⟩:=H.out.1;have Hx:=aa hx;have Hall:=aa dU;rw[Ra]at hx;have Hx2:=aa hx;have Hlk:=aa Ra;clear hx dU Ra;go_wp2_with(go_at_call 14;refine ak.out ?_)
    refine ak.mk ?_;refine cal.out.mono ?_;rintro e w2 ⟨q2,rfl,nU,aq⟩;obtain⟨s1,s2,s3,s4,s5,s6,s7,s8,s9,s10,s11,s12,aK⟩:=nU.out.rd.shape;subst aK;have eR:=aq.size;have sS:=aa aq;have Hcal:=cal;clear aq cal r0;go_wp2_with(at_builtin;refine ak.out ?_)
    refine ak.mk ?_;refine tI rfl (.tmp 24) (.tmp 26) rfl w1.heap.size (.slice lav k lc) k xs rfl (aX Hx2.out fun g hg bm=>by rw[Below.heap_alloc _ _ _ (by simp;omega),Below.heap_alloc _ _ _ (by omega),sS.out.block g bm]) (w2.heap.size+1) 1 rfl y ⟨.slice s1 s2 s3,.slice s4 s5 s6,.slice s7 s8 s9,.slice s10 s11 s12⟩ rfl rfl rfl rfl (by have:=(ft (w2.alloc (.cells (ecl y ⟨.slice s1 s2 s3,.slice s4 s5 s6,.slice s7 s8 s9,.slice s10 s11 s12⟩) 33)) y ⟨.slice s1 s2 s3,.slice s4 s5 s6,.slice s7 s8 s9,.slice s10 s11 s12⟩).range;rw[World.size_alloc]at this;exact this) (by omega) (by have:=H.out.2.size;simp;omega) ?_;intro av2 c2' w4 Sy Md Mo;go_wp2_with fail
    refine⟨⟨k+1,av2,c2',by go_num,rfl,by omega,?_,?_⟩,by simp[intOf];omega⟩
    ·rw[List.take_succ_eq_append_getElem aE]
     refine ER.push (w2:=w2) (w3:=(w2.alloc (.cells (ecl y ⟨.slice s1 s2 s3,.slice s4 s5 s6,.slice s7 s8 s9,.slice s10 s11 s12⟩) 33)).alloc (.cells (ecl y ⟨.slice s1 s2 s3,.slice s4 s5 s6,.slice s7 s8 s9,.slice s10 s11 s12⟩) 33)) Hx.out Hall.out H.out.2.size (Nat.le_refl _) nU.out (by simp;omega) (fun j h1 h2=>?_) (fun j h1 h2=>?_) Md.out ?_ Mo.out
     ·rw[Below.heap_alloc _ _ _ (by simp;omega),Below.heap_alloc _ _ _ (by omega),sS.out.block j h2]
     ·rw[Below.heap_alloc _ _ _ (by simp;omega),Below.heap_alloc _ _ _ (by omega)]
     rw[Hlk.out,gx.out];exact Sy.out
    have q1:Below w1.heap.size w1 w2:=H.out.2.trans (sS.out.mono H.out.2.size);have q2:=(q1.alloc q1.size (.cells (ecl y ⟨.slice s1 s2 s3,.slice s4 s5 s6,.slice s7 s8 s9,.slice s10 s11 s12⟩) 33)).alloc (by have:=q1.size;simp;omega) (.cells (ecl y ⟨.slice s1 s2 s3,.slice s4 s5 s6,.slice s7 s8 s9,.slice s10 s11 s12⟩) 33);exact q2.trans ((Below.refl w1.heap.size _).grown Md.out q2.size fun j hj=>(World.ownsRow.lt Hx2.out j hj).1)
   have bF:¬((k:Int)<(l.length:Int)):=by omega
   have ox:Hid (l.take k=l):=List.take_of_length_le (by omega);have jK:Hid (k=l.length):=by show _=_;omega
   have hZ:=aa (show ZE wr (w.heap.size+1)from(H.out.2.block _ (by have:=gD.out;omega)).trans qO.out);have fx:=hX.out.frz;have X5:Hid (Ex ((wr.setCell ⟨w.heap.size,2,none⟩ (.slice av h.names.length c')).setCell ⟨w.heap.size,3,none⟩ (.slice lav k lc)) w.heap.size h ⟨.slice av h.names.length c',.slice lav k lc,.slice x3 y3 z3,.slice x4 y4 z4⟩):=⟨di (di hX.out.at_ 2 (.slice av h.names.length c')) 3 (.slice lav k lc)⟩
   have Z5:Hid (ZE ((wr.setCell ⟨w.heap.size,2,none⟩ (.slice av h.names.length c')).setCell ⟨w.heap.size,3,none⟩ (.slice lav k lc)) (w.heap.size+1)):=((Below.heap_setCell _ _ _ _ (by show w.heap.size+1≠w.heap.size;omega)).trans (Below.heap_setCell _ _ _ _ (by show w.heap.size+1≠w.heap.size;omega))).trans hZ.out;have bw:Hid (Below w.heap.size w wr):=cP.out.trans (H.out.2.mono (by have:=gD.out;omega));have b5:Hid (Below w.heap.size w ((wr.setCell ⟨w.heap.size,2,none⟩ (.slice av h.names.length c')).setCell ⟨w.heap.size,3,none⟩ (.slice lav k lc))):=Below.setCell (Below.setCell bw.out (Nat.le_refl _) _) (Nat.le_refl _) _;have c0:=hX.out.cells;simp only at c0;have PW:=aa (Uw.out _ b5.out);clear c2 c3;go_wp2_with(go_at_call 33;refine ak.out ?_)
   refine ak.mk ?_;refine PW.out.mono ?_;rintro e w6 ⟨ns6,ls6,rfl,JA,da⟩;obtain⟨t1,t2,t3,t4,t5,t6,rfl,rfl⟩:=JA.out.rd.shape;have X6:=aa (X5.out.below da);have Z6:=aa (show ZE w6 (w.heap.size+1)from(da.block _ (by have:=X5.out.lt;have:=Z5.out;have h3:=(Array.getElem?_eq_some_iff.1 this).1;exact h3)).trans Z5.out);have B6:=aa (ac b5.out da);have c6:=X6.out.cells;simp only at c6;have z6:=Z6.out.ex.cells;simp only[ze,lf,vz,vH,aI,aR,zs]at z6;have f6:=X6.out.frz;have g6:=Z6.out.ex.frz;have Qd:=aa da;clear da c0 fx PW;go_wp2_with fail
   refine bodyPost_ret (v:=.agg #[.int .i64 h.op,.string h.name,.slice av h.names.length c',.slice lav k lc,.int .i64 (aI h.vn h.val).kind,.bool (aI h.vn h.val).flag,.bool (aI h.vn h.val).neg,.string (aI h.vn h.val).dig,.int .i64 (aI h.vn h.val).exp,.int .u64 (aI h.vn h.val).bits,.string (aI h.vn h.val).text,.slice t1 t2 t3,.slice t4 t5 t6]) (by simp[results,Tryz.results14,go_sem, *]) rfl ⟨⟨.slice av h.names.length c',.slice lav k lc,.slice t1 t2 t3,.slice t4 t5 t6⟩,rfl,?_,?_⟩
   ·have cC:((wr.setCell ⟨w.heap.size,2,none⟩ (.slice av h.names.length c')).setCell ⟨w.heap.size,3,none⟩ (.slice lav k lc)).heap.size=wr.heap.size:=by simp
    have h6:=Qd.out.size;have Xs:=H.out.2.size;have aT:=gD.out;show KE _ _ _ _ _ _;generalize hW:World.setCell _ _ _=W8;have s8:W8.heap.size=w6.heap.size:=by rw[<-hW];simp
    have b8:∀j,w.heap.size+2<=j->W8.heap[j]?=w6.heap[j]?:=fun j hj=>by rw[<-hW];simp only[ga (show j≠w.heap.size by omega),ga (show j≠w.heap.size+1 by omega)]
    have b7:∀j,w.heap.size+2<=j->j<wr.heap.size->w6.heap[j]?=wr.heap[j]?:=fun j hj h2=>by rw[Qd.out.block j (by omega)];simp only[ga (show j≠w.heap.size by omega)]
    refine⟨by omega,Nat.le_refl _,fun W' h'=>⟨?_,?_,?_⟩⟩
    ·refine Ha tU.out fun g g1 g2=>?_
     rw[h' g (by omega) (by omega),b8 g g1,b7 g g1 (by omega),H.out.2.block g g2]
    ·refine JA.out.2.2 W' fun g g1 g2=>?_
     rw[h' g (by omega) (by omega),b8 g (by omega)]
    have hE:=H.out.1;rw[ox.out]at hE;refine hE.el fun g g1 g2=>?_;rw[h' g (by omega) (by omega),b8 g (by omega),b7 g (by omega) g2]
   (repeat (refine Below.setCell ?_ (by show w.heap.size<=_;first|exact Nat.le_refl _|exact Nat.le_succ _) _))
   exact B6.out
variable {dq : {_f : (p : Prop) → Decidable p // True}}
theorem oV(c:Tk):∀L:List (List Tk),(aU c L).length<=aA (L.map List.length)+(L.length-1)
 | []=>by simp[aU]
 | [a]=>by simp[aU,aA]
 |a::b::r=>by have:=oV c (b::r);simp only[aU,List.length_append,List.length_cons,List.map_cons,aA]at this ⊢;omega
theorem rQ(c:Tk):∀(L:List (List Tk)) (t:Tk),t∈aU c L->t=c\/∃a∈L,t∈a
 | [],t,h=>by simp[aU]at h
 | [a],t,h=>Or.inr ⟨a,by simp,h⟩
 |a::b::r,t,h=>by
  simp only[aU]at h;rcases List.mem_append.1 h with h|h
  ·exact Or.inr ⟨a,by simp,h⟩
  rcases List.mem_cons.1 h with h|h
  ·exact Or.inl h
  rcases rQ c (b::r) t h with h|⟨d,hd,h⟩
  ·exact Or.inl h
  exact Or.inr ⟨d,List.mem_cons_of_mem _ hd,h⟩
theorem sC(m:List UInt8):∀(ns:List ByteArray) (ks:List (List Tk)),aA ((mY m ns ks).map List.length)<=aA (ks.map List.length)+2*ks.length/\(mY m ns ks).length<=ks.length
 | [],ks=>by simp[mY,aA]
 |s::ns,[]=>by simp[mY,aA]
 |s::ns,k::ks=>by obtain⟨h1,h2⟩:=sC m ns ks;have e:mY m (s::ns) (k::ks)=(de (bl s)::mk m::k)::mY m ns ks:=rfl;rw[e];simp only[List.map_cons,aA,List.length_cons];omega
theorem za(m:List UInt8):∀(ns:List ByteArray) (ks:List (List Tk)) (a:List Tk),a∈mY m ns ks->∃s k,s∈ns/\k∈ks/\a=de (bl s)::mk m::k
 | [],ks,a,h=>by simp[mY]at h
 |s::ns,[],a,h=>by simp[mY]at h
 |s::ns,k::ks,a,h=>by
  have e:mY m (s::ns) (k::ks)=(de (bl s)::mk m::k)::mY m ns ks:=rfl;rw[e]at h;rcases List.mem_cons.1 h with rfl|h
  ·exact⟨s,k,by simp,by simp,rfl⟩
  obtain⟨s',k',h1,h2,h3⟩:=za m ns ks a h;exact⟨s',k',List.mem_cons_of_mem _ h1,List.mem_cons_of_mem _ h2,h3⟩
theorem pv{α:Type}(f g:α->Nat):∀l:List α,(∀x∈l,f x+3<=8*g x)->aA (l.map f)+3*l.length<=8*aA (l.map g)
 | [],_=>by simp[aA]
 |a::l,h=>by have h1:=h a (by simp);have h2:=pv f g l fun x hx=>h x (by simp[hx]);simp only[List.map_cons,aA,List.length_cons];omega
theorem uh{α:Type}(f g:α->Nat):∀l:List α,(∀x∈l,f x<=g x+2)->aA (l.map f)<=aA (l.map g)+2*l.length
 | [],_=>by simp[aA]
 |a::l,h=>by have h1:=h a (by simp);have h2:=uh f g l fun x hx=>h x (by simp[hx]);simp only[List.map_cons,aA,List.length_cons];omega
theorem GI(n:Nat)(y:ET n):(jV n y).length<=(bp n y).length+2:=by
 unfold jV
 split
 ·simp only[fM,List.length_cons,List.length_append,List.length_nil];omega
 omega
theorem kU:∀(n:Nat) (x:ET n),(bp n x).length+3<=8*aM n x
 |0,x=>Empty.elim x
 |n+1,x=>by
  obtain⟨⟨k,nm,nms,vn,val⟩,l⟩:=x;have ih:=pv (fun y=>(bp n y).length) (aM n) l fun y _=>kU n y;have hm:aA ((l.map (bp n)).map List.length)=aA (l.map fun y=>(bp n y).length):=by rw[List.map_map];rfl
  have hn:∀m,(io m nms (l.map (bp n))).length<=2+aA (l.map fun y=>(bp n y).length)+3*l.length:=fun m=>by have h1:=oV (mk [44]) (mY m nms (l.map (bp n)));obtain⟨h2,h3⟩:=sC m nms (l.map (bp n));rw[List.length_map]at h2 h3;rw[hm]at h2;simp only[io,fM,List.length_cons,List.length_append,List.length_nil];omega
  show _<=8*(1+aA (l.map (aM n)))
  simp only[bp]
  split
  ·simp;omega
  split
  ·simp;omega
  split
  ·simp;omega
  split
  ·cases l with
   |nil=>simp[fM];omega
   |cons y l=>
    simp only[List.map_cons,aA,List.length_cons]at ih;simp only[fM,List.map_cons,List.headD_cons,List.length_cons,List.length_append,List.length_nil,aA];omega
  split
  ·have:=hn [61];omega
  split
  ·have:=hn [61];simp only[List.length_cons];omega
  split
  ·have h1:=oV (mk [59]) (l.map (jV n))
   have h2:=uh (fun y=>(jV n y).length) (fun y=>(bp n y).length) l fun y _=>GI n y;have e:aA ((l.map (jV n)).map List.length)=aA (l.map fun y=>(jV n y).length):=by rw[List.map_map];rfl
   rw[e,List.length_map]at h1;show(aU (mk [59]) (l.map (jV n))).length+3<=_;omega
  simp;omega
theorem yL(s:List UInt8):(de s).s=s:=by unfold de;split<;>rfl
theorem pf{o s:List UInt8}{l:List Tk}{t:Tk}(h:t∈fM o l s):t=mk o\/t∈l\/t=mk s:=by
 simp only[fM,List.mem_cons,List.mem_append,List.not_mem_nil,or_false]at h;rcases h with h|h|h
 ·exact Or.inl h
 ·exact Or.inr (Or.inl h)
 exact Or.inr (Or.inr h)
theorem yO{m:List UInt8}{ns:List ByteArray}{ks:List (List Tk)}(hm:m.length<=4096)(hs:∀s∈ns,s.size<=64)(hk:∀k∈ks,∀t∈k,t.s.length<=4096):∀t∈io m ns ks,t.s.length<=4096:=by
 intro t ht;rcases pf ht with rfl|ht|rfl
 ·simp[mk]
 ·rcases rQ _ _ _ ht with rfl|⟨a,ha,ht⟩
  ·simp[mk]
  obtain⟨s,k,h1,h2,rfl⟩:=za m ns ks a ha;rcases List.mem_cons.1 ht with rfl|ht
  ·rw[yL,bl_length];have:=hs s h1;omega
  rcases List.mem_cons.1 ht with rfl|ht
  ·exact hm
  exact hk k h2 t ht
 simp[mk]
theorem Qy(h:Hd)(h1:h.text.size<=4096)(h2:h.kind=3->eI h.neg h.dig h.exp=true):(tW h).s.length<=4096:=by
 unfold tW
 split
 ·simp only;rw[bl_length];exact h1
 split
 ·rename_i k
  have:=wM h.neg h.dig h.exp (h2 k);simp only;omega
 split
 ·simp[wd]
 split<;>simp[wd]
theorem Jl:∀(n:Nat) (x:ET n),mo n x->∀t∈bp n x,t.s.length<=4096
 |0,x,_=>Empty.elim x
 |n+1,x,h=>by
  obtain⟨p1,p2,p3,p4,p5,p6,p7,p8⟩:=h.1.pre;have ih:∀y∈x.2,∀t∈bp n y,t.s.length<=4096:=fun y hy=>Jl n y (h.2 y hy);have ihk:∀k∈x.2.map (bp n),∀t∈k,t.s.length<=4096:=fun k hk t ht=>by obtain⟨y,hy,rfl⟩:=List.mem_map.1 hk;exact ih y hy t ht
  have Gf:(de (bl x.1.name)).s.length<=4096:=by rw[yL,bl_length];omega
  intro t ht;unfold bp at ht
  split at ht
  ·simp only[List.mem_cons,List.not_mem_nil,or_false]at ht
   rcases ht with rfl|rfl
   ·simp[mk]
   exact Gf
  split at ht
  ·simp only[List.mem_cons,List.not_mem_nil,or_false]at ht
   rcases ht with rfl|rfl
   ·simp[wd]
   exact Gf
  split at ht
  ·simp only[List.mem_cons,List.not_mem_nil,or_false]at ht
   rcases ht with rfl|rfl
   ·simp[wd]
   exact Qy _ p8 p7
  split at ht
  ·rcases pf ht with rfl|ht|rfl
   ·simp[mk]
   ·cases hx:x.2 with
    |nil=>rw[hx]at ht;simp at ht
    |cons y l=>
     rw[hx]at ht;simp only[List.map_cons,List.headD_cons]at ht;exact ih y (by rw[hx];simp) t ht
   simp[mk]
  split at ht
  ·exact yO (by simp) p6 ihk t ht
  split at ht
  ·rcases List.mem_cons.1 ht with rfl|ht
   ·simp[wd]
   exact yO (by simp) p6 ihk t ht
  split at ht
  ·rcases rQ _ _ _ ht with rfl|⟨a,ha,ht⟩
   ·simp[mk]
   obtain⟨y,hy,rfl⟩:=List.mem_map.1 ha
   split at ht
   ·rcases pf ht with rfl|ht|rfl
    ·simp[mk]
    ·exact ih y hy t ht
    simp[mk]
   exact ih y hy t ht
  rw[List.mem_singleton.1 ht];simp only[wd,wO]
  repeat' split
  all_goals simp
def BP(dq:{_f:(p:Prop)->Decidable p // True})(n:Nat)(x:ET n):Int×List UInt8:=if mX dq n x=0 then ((((kS (bp n x)).1:Nat):Int),(kS (bp n x)).2) else (mX dq n x,[])
theorem uD(hP:aW)(n:Nat)(x:ET n)(q:Sl)(w:World)(hr:RE n w x q)(hs:GE n x)(hz:aM n x<=200000)(g:Gs w):Calls prog 15 #[.agg (ecl (ehd n x) q)] w fun e w'=>e=.returned (.tuple #[.string (aj (BP dq n x).2),.int .i64 (BP dq n x).1])/\Below w.heap.size w w':=by
 obtain⟨x1,y1,z1,x2,y2,z2,x3,y3,z3,x4,y4,z4,aK⟩:=hr.shape;subst aK;have hc:=aa (fun o=>qn (dq:=dq) n x ⟨.slice x1 y1 z1,.slice x2 y2 z2,.slice x3 y3 z3,.slice x4 y4 z4⟩ (w.alloc o) (hr.below (ab af)) ⟨hs,(g.below (ab af)).gg.gu⟩ hz);have hm:=aa (fun(h:mX dq n x=0) W (hb:Below w.heap.size w W)=>ra hP n x ⟨.slice x1 y1 z1,.slice x2 y2 z2,.slice x3 y3 z3,.slice x4 y4 z4⟩ W (hr.below hb) ((gN h).1.pre (gN h).2.2) (by have:=kU n x;have:=(gN h).2.2;omega) (g.below hb));have hp:=aa (fun(h:mX dq n x=0) W (hb:Below w.heap.size w W) B v (k:OT W B v (bp n x))=>lV hP v (bp n x) W (k.ts (by have:=kU n x;have:=(gN h).2.2;omega)) (g.below hb).gg (fun t ht=>by have:=Jl n x (gN h).1 t ht;omega) (by have:=kU n x;have:=(gN h).2.2;omega));have X0:=aa (bC w (ehd n x) ⟨.slice x1 y1 z1,.slice x2 y2 z2,.slice x3 y3 z3,.slice x4 y4 z4⟩);have hx:Hid (BP dq n x=if mX dq n x=0 then ((((kS (bp n x)).1:Nat):Int),(kS (bp n x)).2) else (mX dq n x,[])):=rfl;obtain⟨R,hR⟩:∃R,BP dq n x=R:=⟨_,rfl⟩
 rw[hR]at hx ⊢;clear hP hr hs hz g hR;obtain⟨c,Ba⟩:∃c,mX dq n x=c:=⟨_,rfl⟩
 obtain⟨T,hT⟩:∃T,bp n x=T:=⟨_,rfl⟩
 obtain⟨h,hh⟩:∃h,ehd n x=h:=⟨_,rfl⟩
 rw[Ba]at hc hm hp hx;rw[hT]at hm hp hx;rw[hh]at hc hm X0 ⊢;clear Ba hT hh;unfold bE at hm;unfold ecl at hc hm X0 ⊢
 dsimp only at hc hm X0 ⊢
 go_enter func15,ntmps15;go_wp2_with(go_at_call 16;refine ak.out ?_)
 refine ak.mk ?_;refine(hc.out _).mono ?_;rintro e w1 ⟨rfl,ai⟩;have B1:=aa (ac (ab af) ai);have X1:=aa (X0.out.below ai);have x0:=X1.out.cells;clear ai hc X0;by_cases h0:c=0
 ·have pd:=aa (hm.out h0 w1 B1.out)
  have AR:=aa (hp.out h0);have e1:Hid (R=((((kS T).1:Nat):Int),(kS T).2)):=by show _=_;rw[hx.out,if_pos h0]
  subst h0;clear hm hp hx;go_wp2_with(go_at_call 35;refine ak.out ?_)
  refine ak.mk ?_;refine pd.out.mono ?_;rintro e w2 ⟨v,rfl,hO,aq⟩;have B2:=aa (ac B1.out aq);have qI:=aa (AR.out w2 B2.out _ v hO);clear hO aq pd AR x0;unfold Ng at qI;go_wp2_with(go_at_call 34;refine ak.out ?_)
  refine ak.mk ?_;refine qI.out.mono ?_;rintro e w3 ⟨rfl,ar⟩;have B3:=aa (ac B2.out ar);go_wp2_with fail
  go_ret2;exact⟨by rw[e1.out];rfl,B3.out⟩
 have b0:(c==0)=false:=by simp[h0]
 have e1:Hid (R=(c,[])):=by show _=_;rw[hx.out,if_neg h0]
 clear h0 hx;go_wp2_with fail
 go_ret2;exact⟨by rw[e1.out];rfl,B1.out⟩
open Go.RowKit Go.Maps
theorem Aw(v:Value)(l:List ByteArray)(s:ByteArray)(w:World)(hv:NL w v l):Calls prog 103 #[v,.string s] w fun e w'=>∃r:Int,e=.returned (.int .i64 r)/\Hid ((r=-1/\s∉l)\/∃k:Nat,r=k/\∃h:k<l.length,l[k]=s)/\Below w.heap.size w w':=by
 obtain⟨av,cv,rfl,Hv,Lu⟩:=hv.len;have hv:=aa hv;have ml:maxLen=9223372036854775807:=rfl;go_enter func103,ntmps103;go_wp2_with fail
 go_loopw [5] (fun i w'=>∃k:Nat,i=.int .i64 k/\k<=l.length/\Hid (s∉l.take k/\Below w.heap.size w w')) (fun i _=>l.length-(intOf i).toNat)
 case atStart=>exact⟨0,rfl,Nat.zero_le _,by simp,af⟩
 case round=>
  obtain⟨k,rfl,hk,H⟩:=hrel;by_cases aE:k<l.length
  ·have bF:(k:Int)<(l.length:Int):=by omega
   have cR:(k:Int)<9223372036854775807:=by omega
   obtain⟨b,o,c,he,cQ,gq,iE,hcell⟩:=hv.out.at k aE;have cy:=Value.slice.inj he;obtain⟨rfl,_,rfl⟩:=cy;clear he;have hcell:=(H.out.2.cell (p:=⟨b,o+k,none⟩) cQ).trans hcell;obtain⟨t,ht⟩:∃t,Hid (l[k]=t):=⟨_,aa rfl⟩
   rw[ht.out]at hcell;by_cases cb:t=s
   ·subst cb
    go_wp2_with fail
    go_ret;exact⟨k,rfl,Or.inr ⟨k,rfl,aE,ht.out⟩,H.out.2⟩
   have LD:decide (t=s)=false:=decide_eq_false cb;have LC:=gv cb;have Ep:=aa cb;clear cb;go_wp2_with fail
   refine⟨⟨k+1,by go_num,by omega,?_,H.out.2⟩,by simp[intOf];omega⟩;rw[List.take_succ_eq_append_getElem aE];intro q;rcases List.mem_append.1 q with q|q
   ·exact H.out.1 q
   rw[List.mem_singleton.1 q]at Ep;exact Ep.out ht.out.symm
  have bF:¬((k:Int)<(l.length:Int)):=by omega
  have hE:=H.out.1;rw[List.take_of_length_le (by omega)]at hE;have iJ:=aa hE;clear hE;go_wp2_with fail
  go_ret;exact⟨-1,rfl,Or.inl ⟨rfl,iJ.out⟩,H.out.2⟩
theorem Hf{w:World}{a:Option Addr}{c:Nat}{l:List ByteArray}(h:NL w (.slice a l.length c) l)(k:Nat)(hk:k<=l.length):NL w (.slice a k c) (l.take k):=by
 have hl:(l.take k).length=k:=by simp;omega
 rcases h with⟨e,rfl⟩|⟨b,o,c',sp,e,h1,h2,h3,h4⟩
 ·have:k=0:=by simpa using hk
  subst this;simp only[Value.slice.injEq]at e;exact Or.inl ⟨by rw[e.1,e.2.2],by simp⟩
 simp only[Value.slice.injEq]at e;obtain⟨rfl,_,rfl⟩:=e;refine Or.inr ⟨b,o,c,sp,by rw[hl],by rw[hl];omega,h2,fun q=>h3 (by rw[hl]at q;omega),fun i hi=>?_⟩;rw[hl]at hi;rw[h4 i (by omega),List.getElem_take]
theorem DB{l:List ByteArray}(k:Nat)(hk:k<l.length):oB (l.take (k+1))↔oB (l.take k)/\Go.Proofs.YtcnfchblfcfimaaGreatDoor.okT l[k]=true/\l[k]∉l.take k:=by
 rw[List.take_succ_eq_append_getElem hk];unfold oB;rw[List.nodup_append];constructor
 ·rintro⟨h1,h2,_,h3⟩
  exact⟨⟨fun s hs=>h1 s (List.mem_append_left _ hs),h2⟩,h1 _ (List.mem_append_right _ (by simp)),fun q=>h3 _ q _ (by simp) rfl⟩
 rintro⟨⟨h1,h2⟩,h3,h4⟩;refine⟨fun s hs=>?_,h2,by simp,fun a ha b hb=>?_⟩
 ·rcases List.mem_append.1 hs with q|q
  ·exact h1 s q
  rw[List.mem_singleton.1 q];exact h3
 rw[List.mem_singleton.1 hb];rintro rfl;exact h4 ha
theorem wF(rv:tL)(v:Value)(l:List ByteArray)(w:World)(hv:NL w v l)(hz:∀s∈l,s.size<=281474976710656):Calls prog 143 #[v] w fun e w'=>TB (oB l) w e w':=by
 obtain⟨av,cv,rfl,Hv,Lu⟩:=hv.len;have hv:=aa hv;have hz:=aa hz;have rv:=aa rv;have ml:maxLen=9223372036854775807:=rfl;go_enter func143,ntmps143;go_wp2_with fail
 go_loopw [3] (fun i w'=>∃k:Nat,i=.int .i64 k/\k<=l.length/\Hid (oB (l.take k)/\Below w.heap.size w w')) (fun i _=>l.length-(intOf i).toNat)
 case atStart=>exact⟨0,rfl,Nat.zero_le _,⟨by simp,by simp⟩,af⟩
 case round=>
  obtain⟨k,rfl,hk,H⟩:=hrel;by_cases aE:k<l.length
  ·have bF:(k:Int)<(l.length:Int):=by omega
   have cR:(k:Int)<9223372036854775807:=by omega
   have ms:=aa (Hf hv.out k hk);obtain⟨b,o,c,he,cQ,gq,iE,hcell⟩:=hv.out.at k aE;have cy:=Value.slice.inj he;obtain⟨rfl,_,rfl⟩:=cy;clear he;have hcell:=(H.out.2.cell (p:=⟨b,o+k,none⟩) cQ).trans hcell;obtain⟨s,hs⟩:∃s,Hid (l[k]=s):=⟨_,aa rfl⟩
   rw[hs.out]at hcell;have hV:=aa (fun W=>rv.out s W (by rw[<-hs.out];exact hz.out _ (List.getElem_mem _)));have hP:=aa (fun W (hb:Below wr.heap.size wr W)=>Aw _ (l.take k) s W (ms.out.below (ac H.out.2 hb)));have cb:=aa (DB k aE);have Uk:k<=cv:=by omega
   cases ho:Go.Proofs.YtcnfchblfcfimaaGreatDoor.okT s
   ·rw[ho]at hV
    have SC:=aa ho;clear ho;go_wp2_with fail
    refine wp_region_any (by kernel_rfl) ?_
    try (change wpAny _ _ _ _ _ _ _ (World.drew _))
    refine wpAny_take (i:=0) (v:=?_) rfl (by kernel_rfl) (by kernel_rfl) (by kernel_rfl) (fun _ _ _ h=>h) (Or.inl ⟨by kernel_rfl,?_⟩) ?_
    rotate_left
    ·intro w;go_simp;try rfl
    go_simp
    refine wpAny_take (i:=1) (v:=?_) rfl (by kernel_rfl) (by kernel_rfl) (by kernel_rfl) (fun _ _ _ h=>h) (Or.inl ⟨by kernel_rfl,?_⟩) ?_
    rotate_left
    ·intro w;go_simp;try rfl
    go_simp
    refine wpAny_take (i:=2) (v:=?_) rfl (by kernel_rfl) (by kernel_rfl) (by kernel_rfl) (fun _ _ _ h=>h) (Or.inl ⟨by kernel_rfl,?_⟩) ?_
    rotate_left
    ·intro w;go_simp;try rfl
    go_simp
    refine wpAny_ready (rs:=[3]) (by kernel_rfl) (by simp) (AllReady.cons rfl (fun K hK=>?_) AllReady.nil)
    go_simp
    refine hK _ _ ?_;clear hK K
    try go_simp
    refine wpAny_ready (rs:=[4]) (by kernel_rfl) (by simp) (AllReady.cons rfl (fun K hK=>?_) AllReady.nil)
    go_simp
    refine(hV.out _).mono ?_;rintro e w3 ⟨rfl,ar⟩;have T3:Hid (Below wr.heap.size wr w3):=ac (by repeat (first|exact af|refine below_dr ?_|refine eF ?_ _)) ar;have Bc:=(T3.out.cell (p:=⟨b,o+k,none⟩) (by have:=H.out.2.size;show b<wr.heap.size;omega)).trans hcell;clear ar
    dsimp only
    refine hK _ _ ?_;clear hK K
    try go_simp
    refine wpAny_take (i:=5) (v:=?_) rfl (by kernel_rfl) (by kernel_rfl) (by kernel_rfl) (fun _ _ _ h=>h) (Or.inl ⟨by kernel_rfl,?_⟩) ?_
    rotate_left
    ·intro w;go_simp;try rfl
    go_simp
    refine wpAny_take (i:=6) (v:=?_) rfl (by kernel_rfl) (by kernel_rfl) (by kernel_rfl) (fun _ _ _ h=>h) (Or.inl ⟨by kernel_rfl,?_⟩) ?_
    rotate_left
    ·intro w;go_simp;try rfl
    go_simp
    refine wpAny_take (i:=7) (v:=undef) rfl (by kernel_rfl) (by kernel_rfl) (by kernel_rfl) (fun _ _ _ h=>h) (Or.inr ⟨by kernel_rfl,rfl⟩) ?_
    go_simp
    refine wpAny_take (i:=8) (v:=undef) rfl (by kernel_rfl) (by kernel_rfl) (by kernel_rfl) (fun _ _ _ h=>h) (Or.inr ⟨by kernel_rfl,rfl⟩) ?_
    go_simp
    refine wpAny_take (i:=9) (v:=undef) rfl (by kernel_rfl) (by kernel_rfl) (by kernel_rfl) (fun _ _ _ h=>h) (Or.inr ⟨by kernel_rfl,rfl⟩) ?_
    go_simp
    refine wpAny_take (i:=10) (v:=undef) rfl (by kernel_rfl) (by kernel_rfl) (by kernel_rfl) (fun _ _ _ h=>h) (Or.inr ⟨by kernel_rfl,rfl⟩) ?_
    go_simp
    refine wpAny_take (i:=11) (v:=undef) rfl (by kernel_rfl) (by kernel_rfl) (by kernel_rfl) (fun _ _ _ h=>h) (Or.inr ⟨by kernel_rfl,rfl⟩) ?_
    go_simp
    refine wpAny_take (i:=12) (v:=undef) rfl (by kernel_rfl) (by kernel_rfl) (by kernel_rfl) (fun _ _ _ h=>h) (Or.inr ⟨by kernel_rfl,rfl⟩) ?_
    go_simp
    refine wpAny_take (i:=13) (v:=undef) rfl (by kernel_rfl) (by kernel_rfl) (by kernel_rfl) (fun _ _ _ h=>h) (Or.inr ⟨by kernel_rfl,rfl⟩) ?_
    go_simp
    refine wpAny_take (i:=14) (v:=undef) rfl (by kernel_rfl) (by kernel_rfl) (by kernel_rfl) (fun _ _ _ h=>h) (Or.inr ⟨by kernel_rfl,rfl⟩) ?_
    go_simp
    refine wpAny_take (i:=15) (v:=undef) rfl (by kernel_rfl) (by kernel_rfl) (by kernel_rfl) (fun _ _ _ h=>h) (Or.inr ⟨by kernel_rfl,rfl⟩) ?_
    go_simp
    refine wpAny_take (i:=16) (v:=?_) rfl (by kernel_rfl) (by kernel_rfl) (by kernel_rfl) (fun _ _ _ h=>h) (Or.inl ⟨by kernel_rfl,?_⟩) ?_
    rotate_left
    ·intro w;go_simp;try rfl
    go_simp
    refine wpAny_done (by kernel_rfl) ?_ _;go_wp2_with fail
    go_ret;refine TB.no (fun q=>?_) (ac H.out.2 T3.out);have:=q.1 _ (List.getElem_mem aE);rw[hs.out,SC.out]at this;cases this
   rw[ho]at hV;have SC:=aa ho;clear ho;go_wp2_with fail
   refine wp_region_any (by kernel_rfl) ?_
   try (change wpAny _ _ _ _ _ _ _ (World.drew _))
   refine wpAny_take (i:=0) (v:=?_) rfl (by kernel_rfl) (by kernel_rfl) (by kernel_rfl) (fun _ _ _ h=>h) (Or.inl ⟨by kernel_rfl,?_⟩) ?_
   rotate_left
   ·intro w;go_simp;try rfl
   go_simp
   refine wpAny_take (i:=1) (v:=?_) rfl (by kernel_rfl) (by kernel_rfl) (by kernel_rfl) (fun _ _ _ h=>h) (Or.inl ⟨by kernel_rfl,?_⟩) ?_
   rotate_left
   ·intro w;go_simp;try rfl
   go_simp
   refine wpAny_take (i:=2) (v:=?_) rfl (by kernel_rfl) (by kernel_rfl) (by kernel_rfl) (fun _ _ _ h=>h) (Or.inl ⟨by kernel_rfl,?_⟩) ?_
   rotate_left
   ·intro w;go_simp;try rfl
   go_simp
   refine wpAny_ready (rs:=[3]) (by kernel_rfl) (by simp) (AllReady.cons rfl (fun K hK=>?_) AllReady.nil)
   go_simp
   refine hK _ _ ?_;clear hK K
   try go_simp
   refine wpAny_ready (rs:=[4]) (by kernel_rfl) (by simp) (AllReady.cons rfl (fun K hK=>?_) AllReady.nil)
   go_simp
   refine(hV.out _).mono ?_;rintro e w3 ⟨rfl,ar⟩;have T3:Hid (Below wr.heap.size wr w3):=ac (by repeat (first|exact af|refine below_dr ?_|refine eF ?_ _)) ar;have Bc:=(T3.out.cell (p:=⟨b,o+k,none⟩) (by have:=H.out.2.size;show b<wr.heap.size;omega)).trans hcell;clear ar
   dsimp only
   refine hK _ _ ?_;clear hK K
   try go_simp
   refine wpAny_take (i:=5) (v:=?_) rfl (by kernel_rfl) (by kernel_rfl) (by kernel_rfl) (fun _ _ _ h=>h) (Or.inl ⟨by kernel_rfl,?_⟩) ?_
   rotate_left
   ·intro w;go_simp;try rfl
   go_simp
   refine wpAny_take (i:=6) (v:=?_) rfl (by kernel_rfl) (by kernel_rfl) (by kernel_rfl) (fun _ _ _ h=>h) (Or.inl ⟨by kernel_rfl,?_⟩) ?_
   rotate_left
   ·intro w;go_simp;try rfl
   go_simp
   refine wpAny_take (i:=7) (v:=?_) rfl (by kernel_rfl) (by kernel_rfl) (by kernel_rfl) (fun _ _ _ h=>h) (Or.inl ⟨by kernel_rfl,?_⟩) ?_
   rotate_left
   ·intro w;go_simp;try rfl
   go_simp
   refine wpAny_take (i:=8) (v:=?_) rfl (by kernel_rfl) (by kernel_rfl) (by kernel_rfl) (fun _ _ _ h=>h) (Or.inl ⟨by kernel_rfl,?_⟩) ?_
   rotate_left
   ·intro w;go_simp;try rfl
   go_simp
   refine wpAny_take (i:=10) (v:=?_) rfl (by kernel_rfl) (by kernel_rfl) (by kernel_rfl) (fun _ _ _ h=>h) (Or.inl ⟨by kernel_rfl,?_⟩) ?_
   rotate_left
   ·intro w;go_simp;try rfl
   go_simp
   refine wpAny_take (i:=11) (v:=?_) rfl (by kernel_rfl) (by kernel_rfl) (by kernel_rfl) (fun _ _ _ h=>h) (Or.inl ⟨by kernel_rfl,?_⟩) ?_
   rotate_left
   ·intro w;go_simp;try rfl
   go_simp
   refine wpAny_take (i:=12) (v:=?_) rfl (by kernel_rfl) (by kernel_rfl) (by kernel_rfl) (fun _ _ _ h=>h) (Or.inl ⟨by kernel_rfl,?_⟩) ?_
   rotate_left
   ·intro w;go_simp;try rfl
   go_simp
   refine wpAny_take (i:=9) (v:=?_) rfl (by kernel_rfl) (by kernel_rfl) (by kernel_rfl) (fun _ _ _ h=>h) (Or.inl ⟨by kernel_rfl,?_⟩) ?_
   rotate_left
   ·intro w;go_simp;try rfl
   go_simp
   refine wpAny_ready (rs:=[13]) (by kernel_rfl) (by simp) (AllReady.cons rfl (fun K hK=>?_) AllReady.nil)
   go_simp
   refine hK _ _ ?_;clear hK K
   try go_simp
   refine wpAny_ready (rs:=[14]) (by kernel_rfl) (by simp) (AllReady.cons rfl (fun K hK=>?_) AllReady.nil)
   go_simp
   refine(hP.out _ T3.out).mono ?_;rintro e w4 ⟨r,rfl,Gc,aO⟩;have T4:Hid (Below wr.heap.size wr w4):=ac T3.out aO;clear aO
   dsimp only
   refine hK _ _ ?_;clear hK K
   try go_simp
   rcases Gc.out with⟨rfl,hn⟩|⟨q,rfl,hq,Nk⟩
   ·have hn:=aa hn
    refine wpAny_take (i:=15) (v:=?_) rfl (by kernel_rfl) (by kernel_rfl) (by kernel_rfl) (fun _ _ _ h=>h) (Or.inl ⟨by kernel_rfl,?_⟩) ?_
    rotate_left
    ·intro w;go_simp;try rfl
    go_simp
    refine wpAny_take (i:=16) (v:=?_) rfl (by kernel_rfl) (by kernel_rfl) (by kernel_rfl) (fun _ _ _ h=>h) (Or.inl ⟨by kernel_rfl,?_⟩) ?_
    rotate_left
    ·intro w;go_simp;try rfl
    go_simp
    refine wpAny_done (by kernel_rfl) ?_ _;go_wp2_with fail
    refine⟨⟨k+1,by go_num,by omega,cb.out.2 ⟨H.out.1,by rw[hs.out];exact SC.out,by rw[hs.out];exact hn.out⟩,ac H.out.2 T4.out⟩,by simp[intOf];omega⟩
   have kX:(0:Int)<=(q:Int):=by omega
   have jJ:=aa (show s∈l.take k by rw[<-Nk];exact List.getElem_mem _);clear Gc Nk hq;refine wpAny_take (i:=15) (v:=?_) rfl (by kernel_rfl) (by kernel_rfl) (by kernel_rfl) (fun _ _ _ h=>h) (Or.inl ⟨by kernel_rfl,?_⟩) ?_
   rotate_left
   ·intro w;go_simp;try rfl
   go_simp
   refine wpAny_take (i:=16) (v:=?_) rfl (by kernel_rfl) (by kernel_rfl) (by kernel_rfl) (fun _ _ _ h=>h) (Or.inl ⟨by kernel_rfl,?_⟩) ?_
   rotate_left
   ·intro w;go_simp;try rfl
   go_simp
   refine wpAny_done (by kernel_rfl) ?_ _;go_wp2_with fail
   go_ret;refine TB.no (fun z=>?_) (ac H.out.2 T4.out);have z1:oB (l.take (k+1)):=⟨fun s hs=>z.1 s (List.mem_of_mem_take hs),z.2.sublist (List.take_sublist _ _)⟩
   exact(cb.out.1 z1).2.2 (by rw[hs.out];exact jJ.out)
  have bF:¬((k:Int)<(l.length:Int)):=by omega
  have hE:=H.out.1;rw[List.take_of_length_le (by omega)]at hE;have iJ:=aa hE;clear hE;go_wp2_with fail
  go_ret;exact TB.yes iJ.out H.out.2
end Lx
