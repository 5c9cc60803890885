import Derived.Test.YtcnfchblfcfimaaGreatDoorZh42
set_option linter.all false
set_option maxHeartbeats 8000000
set_option maxRecDepth 100000
namespace Go.Proofs.YtcnfchblfcfimaaGreatDoor
open Proofs.Tryz RowKit
namespace Lx
variable {dq : {_f : (p : Prop) → Decidable p // True}}
theorem Ky{l:List Tk}(h1:∀t∈l,mZ dE t.w t.s=true)(h2:l.length<=1024)(h3:∀t∈l,t.s.length<=lgK (mq t.w))(h4:(jn (l.map cF)).length<=4096):(kS l).1=0:=by
 unfold kS;rw[if_neg (fun q=>q h1),if_neg];rintro(q|⟨t,ht,q⟩|q)
 ·omega
 ·have:=h3 t ht
  simp only[wZ,decide_eq_true_eq]at q;omega
 omega
theorem Kz{l:List Tk}(h:(kS l).1=0):(∀t∈l,mZ dE t.w t.s=true)/\∀t∈l,t.s.length<=lgK (mq t.w):=by
 unfold kS at h
 split at h
 ·cases h
 rename_i k
 split at h
 ·cases h
 rename_i q;refine⟨Classical.not_not.1 k,fun t ht=>?_⟩;by_cases hq:lgK (mq t.w)<t.s.length
 ·exact absurd (Or.inr (Or.inl ⟨t,ht,decide_eq_true hq⟩)) q
 omega
variable {dq : {_f : (p : Prop) → Decidable p // True}}
def Lf:(n:Nat)->VT n->Prop
 |0,_=>False
 |_+1,v=>v.1.names=[]/\v.2=[]
theorem Jb{n:Nat}{v:VT n}(h:VZ n v):Lf n v/\aI n v=zr 0:=by
 cases n with
 |zero=>exact Empty.elim v
 |succ n=>
  have e:v=(zr 0,[]):=h;subst e;exact⟨⟨rfl,rfl⟩,rfl⟩
theorem JO{n:Nat}{v:VT n}(h:iL n v)(k:jI (aI n v).kind):Lf n v:=by
 cases n with
 |zero=>exact Empty.elim v
 |succ n=>
  obtain⟨vh,vl⟩:=v;obtain⟨⟨b1,b2,b3,b4⟩,_⟩:=h;have hk:vh.kind<7:=by have:jI vh.kind:=k;rcases this with q|q|q|q<;>omega
  have hl:vl=[]:=by
   rcases b4 with b4|b4
   ·have:(7:Int)<=vh.kind:=b4
    omega
   exact b4
  refine⟨?_,hl⟩;have:=congrArg Hd.names b3;have h8:(vh.kind==8)=false:=by simp;omega
  simpa [bV,zr,h8] using this
theorem QE.lf{n:Nat}{x:ET (n+1)}(h:QE n x):Lf x.1.vn x.1.val:=by
 obtain⟨⟨⟨b1,b2⟩,b3,b4,b5,b6⟩,h4,iK,h7,hv,hw⟩:=h;obtain⟨⟨k,nm,nms,vn,val⟩,l⟩:=x;simp only at b1 b2 b3 b4 b5 b6 h4 iK h7 hv hw ⊢;rcases b6 with rfl|hz
 ·have e:cX ⟨7,nm,nms,vn,val⟩ l.length=⟨vn,val⟩:=by simp[cX]
  rw[e]at hv;exact JO hv (h7 rfl)
 exact(Jb hz).1
def od:(n:Nat)->ET n->Prop
 |0,_=>False
 |n+1,x=>jT n x
def Gq:(n:Nat)->ET n->Prop
 |0,_=>False
 |n+1,x=>x.1.name.size<=64/\x.1.names.length<=256/\(aI x.1.vn x.1.val).text.size<=4096/\(∀s∈x.1.names,s.size<=64)/\∀i (h:i<x.2.length),Gq n x.2[i]
theorem Ap(rv:tL):∀(n:Nat) (x:ET n) (q:Sl) (w:World),RE n w x q->zN n x ->
  Calls prog 44 #[.agg (ecl (ehd n x) q)] w fun e w'=>TB (fd od n x) w e w':=by
 intro n
 induction n with
 |zero=>intro x;exact Empty.elim x
 |succ n ih=>
  intro x q w hr hz;obtain⟨⟨k,nm,nms,vn,val⟩,l⟩:=x;obtain⟨al,cl,cd,bB,br⟩:=hr.tl.len;obtain⟨an,cn,aQ,cm,df⟩:=hr.1.len;obtain⟨x1,y1,z1,x2,y2,z2,x3,y3,z3,x4,y4,z4,aK⟩:=hr.shape;subst aK;obtain⟨rfl,rfl,rfl⟩:=Value.slice.inj cd;obtain⟨rfl,rfl,rfl⟩:=Value.slice.inj aQ;clear cd aQ;simp only at cm df bB br;show Calls _ _ #[.agg (ecl ⟨k,nm,nms,vn,val⟩ ⟨.slice x1 nms.length z1,.slice x2 l.length z2,.slice x3 y3 z3,.slice x4 y4 z4⟩)] _ _;have hO:=aa (fun W (hb:Below w.heap.size w W)=>CX rv n k nm nms vn val l _ W (hr.below hb) hz);have z5:=aa hz.2.2.2.2;clear hz;have X0:=aa (ft w ⟨k,nm,nms,vn,val⟩ ⟨.slice x1 nms.length z1,.slice x2 l.length z2,.slice x3 y3 z3,.slice x4 y4 z4⟩);have b0:=aa (ab (o:=.cells (ecl ⟨k,nm,nms,vn,val⟩ ⟨.slice x1 nms.length z1,.slice x2 l.length z2,.slice x3 y3 z3,.slice x4 y4 z4⟩) 33) (Below.refl w.heap.size w));obtain⟨N,tV⟩:∃N,nms.length=N:=⟨_,rfl⟩
  have hr:=aa hr;have ih':=aa ih;clear ih;obtain⟨h,hh⟩:∃h:Eh,(⟨k,nm,nms,vn,val⟩:Eh)=h:=⟨_,rfl⟩
  have ml:maxLen=9223372036854775807:=rfl;obtain⟨vv,kB⟩:∃vv,aI vn val=vv:=⟨_,rfl⟩
  have ep:=aa kB;have Bf:=aa tV;rw[tV]at X0 b0 cm hO ⊢;have c0:=X0.out.cells;simp only[kB]at c0;unfold ecl at b0 X0 hO ⊢;simp only[kB]at b0 X0 hO ⊢;clear kB tV hh;have TA:=aa (hO.out _ b0.out);have Bg:Hid (fd od (n+1) (⟨k,nm,nms,vn,val⟩,l)↔jT n (⟨k,nm,nms,vn,val⟩,l)/\∀i (h:i<l.length),fd od n l[i]):=Iff.rfl;obtain⟨P,hP⟩:∃P,jT n (⟨k,nm,nms,vn,val⟩,l)=P:=⟨_,rfl⟩
  obtain⟨E,hE⟩:∃E,fd od (n+1) (⟨k,nm,nms,vn,val⟩,l)=E:=⟨_,rfl⟩
  rw[hP,hE]at Bg;rw[hP]at TA;rw[hE];clear hP hE hO;go_enter func44,ntmps44;go_wp2_with(go_at_call 93;refine ak.out ?_)
  refine ak.mk (TA.out.mono ?_);rintro e w1 ⟨b1,rfl,hT,ai⟩;have eN:=aa hT;have B1:=aa (ac b0.out ai);have X1:=aa (X0.out.below ai);clear hT ai c0 X0 TA;cases b1
  ·go_wp2_with fail
   go_ret;exact TB.no (fun z=>by have:=eN.out.2 (Bg.out.1 z).1;cases this) B1.out
  go_wp2_with fail
  go_loopw [3] (fun i w'=>∃k2:Nat,i=.int .i64 k2/\k2<=l.length/\Hid ((∀j (h:j<l.length),j<k2->fd od n l[j])/\Below w.heap.size w w'/\Ex w' w.heap.size ⟨k,nm,nms,vn,val⟩ ⟨.slice x1 N z1,.slice x2 l.length z2,.slice x3 y3 z3,.slice x4 y4 z4⟩)) (fun i _=>l.length-(intOf i).toNat)
  case atStart=>exact⟨0,rfl,Nat.zero_le _,⟨fun j h h0=>absurd h0 (by omega),B1.out,X1.out⟩⟩
  case round=>
   obtain⟨k2,rfl,nU,H⟩:=hrel;obtain⟨_,_,_,c3,_⟩:=H.out.2.2.cells;by_cases aE:k2<l.length
   ·have bF:(k2:Int)<(l.length:Int):=by omega
    have cR:(k2:Int)<9223372036854775807:=by omega
    obtain⟨b,o,c,he,cQ,gq,iE,q',bT,bf⟩:=hr.out.tl.at k2 aE;have cy:=Value.slice.inj he;obtain⟨rfl,_,rfl⟩:=cy;clear he;have r0:=bJ (am bT H.out.2.1 cQ);have cA:=aa (bf.below H.out.2.1);obtain⟨a1,m1,d1,a2,m2,d2,a3,m3,d3,a4,m4,d4,rfl⟩:=bf.shape;clear bT bf;have hcall:=aa (ih'.out l[k2] ⟨.slice a1 m1 d1,.slice a2 m2 d2,.slice a3 m3 d3,.slice a4 m4 d4⟩ wr cA.out (z5.out _ (List.getElem_mem _)));obtain⟨y,hy⟩:∃y,ehd n l[k2]=y:=⟨_,rfl⟩
    simp only at r0;rw[hy]at hcall r0;unfold ecl at hcall;simp only at hcall;clear hy;obtain⟨PK,Mp⟩:∃P,fd od n l[k2]=P:=⟨_,rfl⟩
    have EZ:=aa Mp;rw[Mp]at hcall;clear Mp;go_wp2_with(go_at_call 44;refine ak.out ?_)
    refine ak.mk (hcall.out.mono ?_);rintro e w2 ⟨b2,rfl,oy,aq⟩;have qt:=aa oy;have B2:=aa (ac H.out.2.1 aq);have X2:=aa (H.out.2.2.below aq);clear oy aq;cases b2
    ·go_wp2_with fail
     go_ret;exact TB.no (fun z=>by have h1:=(Bg.out.1 z).2 k2 aE;rw[EZ.out]at h1;have:=qt.out.2 h1;cases this) B2.out
    go_wp2_with fail
    refine⟨⟨k2+1,by go_num,by omega,⟨fun j hj h0=>?_,B2.out,X2.out⟩⟩,by simp[intOf];omega⟩;by_cases oN:j=k2
    ·subst oN
     rw[EZ.out];exact qt.out.1 (by first|rfl|trivial)
    exact H.out.1 j hj (by omega)
   have bF:¬((k2:Int)<(l.length:Int)):=by omega
   go_wp2_with fail
   go_ret;exact TB.yes (Bg.out.2 ⟨eN.out.1 (by first|rfl|trivial),fun i hi=>H.out.1 i hi (by omega)⟩) H.out.2.1
theorem CU:∀(n:Nat) (x:ET n) (q:Sl) (w:World),RE n w x q->zN n x ->
  Calls prog 45 #[.agg (ecl (ehd n x) q)] w fun e w'=>TB (Gq n x) w e w':=by
 intro n
 induction n with
 |zero=>intro x;exact Empty.elim x
 |succ n ih=>
  intro x q w hr hz;obtain⟨⟨k,nm,nms,vn,val⟩,l⟩:=x;obtain⟨al,cl,cd,bB,br⟩:=hr.tl.len;obtain⟨an,cn,aQ,cm,df⟩:=hr.1.len;obtain⟨x1,y1,z1,x2,y2,z2,x3,y3,z3,x4,y4,z4,aK⟩:=hr.shape;subst aK;obtain⟨rfl,rfl,rfl⟩:=Value.slice.inj cd;obtain⟨rfl,rfl,rfl⟩:=Value.slice.inj aQ;clear cd aQ;simp only at cm df bB br;show Calls _ _ #[.agg (ecl ⟨k,nm,nms,vn,val⟩ ⟨.slice x1 nms.length z1,.slice x2 l.length z2,.slice x3 y3 z3,.slice x4 y4 z4⟩)] _ _;obtain⟨s1,s2,s3,s4,z5⟩:=hz;have z5:=aa z5;have s3:=aa s3;simp only at s1;clear s2 s4;have X0:=aa (ft w ⟨k,nm,nms,vn,val⟩ ⟨.slice x1 nms.length z1,.slice x2 l.length z2,.slice x3 y3 z3,.slice x4 y4 z4⟩);have b0:=aa (ab (o:=.cells (ecl ⟨k,nm,nms,vn,val⟩ ⟨.slice x1 nms.length z1,.slice x2 l.length z2,.slice x3 y3 z3,.slice x4 y4 z4⟩) 33) (Below.refl w.heap.size w));obtain⟨N,tV⟩:∃N,nms.length=N:=⟨_,rfl⟩
  have hr:=aa hr;have ih':=aa ih;clear ih;obtain⟨h,hh⟩:∃h:Eh,(⟨k,nm,nms,vn,val⟩:Eh)=h:=⟨_,rfl⟩
  have ml:maxLen=9223372036854775807:=rfl;obtain⟨vv,kB⟩:∃vv,aI vn val=vv:=⟨_,rfl⟩
  have ep:=aa kB;have Bf:=aa tV;rw[tV]at X0 b0 cm ⊢;have c0:=X0.out.cells;simp only[kB]at c0;unfold ecl at b0 X0 ⊢;simp only[kB]at b0 X0 ⊢;clear kB tV hh;have Bg:Hid (Gq (n+1) (⟨k,nm,nms,vn,val⟩,l)↔nm.size<=64/\nms.length<=256/\(aI vn val).text.size<=4096/\(∀s∈nms,s.size<=64)/\∀i (h:i<l.length),Gq n l[i]):=Iff.rfl;rw[ep.out,Bf.out]at Bg;obtain⟨E,hE⟩:∃E,Gq (n+1) (⟨k,nm,nms,vn,val⟩,l)=E:=⟨_,rfl⟩
  rw[hE]at Bg ⊢;clear hE;by_cases e1:(64:Int)<(nm.size:Int)
  ·go_enter func45,ntmps45
   go_wp2_with fail
   go_ret;exact TB.no (fun z=>by have:=(Bg.out.1 z).1;omega) b0.out
  by_cases e2:(256:Int)<(N:Int)
  ·go_enter func45,ntmps45
   go_wp2_with fail
   go_ret;exact TB.no (fun z=>by have:=(Bg.out.1 z).2.1;omega) b0.out
  by_cases e3:(4096:Int)<(vv.text.size:Int)
  ·go_enter func45,ntmps45
   go_wp2_with fail
   go_ret;exact TB.no (fun z=>by have:=(Bg.out.1 z).2.2.1;omega) b0.out
  have f1:Hid (nm.size<=64/\N<=256/\vv.text.size<=4096):=⟨by omega,by omega,by omega⟩
  go_enter func45,ntmps45;go_wp2_with fail
  clear c0 e1 e2 e3;go_loopw [3] (fun i w'=>∃k2:Nat,i=.int .i64 k2/\k2<=N/\Hid ((∀j (h:j<nms.length),j<k2->nms[j].size<=64)/\Below w.heap.size w w'/\Ex w' w.heap.size ⟨k,nm,nms,vn,val⟩ ⟨.slice x1 N z1,.slice x2 l.length z2,.slice x3 y3 z3,.slice x4 y4 z4⟩)) (fun i _=>N-(intOf i).toNat)
  case atStart=>exact⟨0,rfl,Nat.zero_le _,⟨fun j h h0=>absurd h0 (by omega),b0.out,X0.out⟩⟩
  case round=>
   obtain⟨k2,rfl,nU,H⟩:=hrel;obtain⟨_,_,c2,_,_⟩:=H.out.2.2.cells;by_cases aE:k2<N
   ·have bF:(k2:Int)<(N:Int):=by omega
    have cR:(k2:Int)<9223372036854775807:=by omega
    have ri:k2<nms.length:=by rw[Bf.out];exact aE
    obtain⟨b,o,c,he,cQ,gq,iE,hcell⟩:=hr.out.1.at k2 ri;simp only[Bf.out]at he;have cy:=Value.slice.inj he;obtain⟨rfl,_,rfl⟩:=cy;clear he;have hcell:=(H.out.2.1.cell (p:=⟨b,o+k2,none⟩) cQ).trans hcell;simp only at hcell;have Si:=s3.out nms[k2] (List.getElem_mem _);obtain⟨t,ht⟩:∃t,nms[k2]=t:=⟨_,rfl⟩
    rw[ht]at hcell Si;have HJ:=aa ht;clear ht;by_cases e4:(64:Int)<(t.size:Int)
    ·go_wp2_with fail
     go_ret;exact TB.no (fun z=>by have:=(Bg.out.1 z).2.2.2.1 nms[k2] (List.getElem_mem _);rw[HJ.out]at this;omega) H.out.2.1
    go_wp2_with fail
    refine⟨⟨k2+1,by go_num,by omega,⟨fun j hj h0=>?_,H.out.2⟩⟩,by simp[intOf];omega⟩;by_cases oN:j=k2
    ·subst oN
     rw[HJ.out];omega
    exact H.out.1 j hj (by omega)
   have bF:¬((k2:Int)<(N:Int)):=by omega
   have f2:Hid (∀s∈nms,s.size<=64):=fun s hs=>by obtain⟨j,hj,rfl⟩:=List.mem_iff_getElem.1 hs;exact H.out.1 j hj (by have:=Bf.out;omega)
   have B1:=aa H.out.2.1;have X1:=aa H.out.2.2;clear H;go_wp2_with fail
   go_loopw [4] (fun i w'=>∃k2:Nat,i=.int .i64 k2/\k2<=l.length/\Hid ((∀j (h:j<l.length),j<k2->Gq n l[j])/\Below w.heap.size w w'/\Ex w' w.heap.size ⟨k,nm,nms,vn,val⟩ ⟨.slice x1 N z1,.slice x2 l.length z2,.slice x3 y3 z3,.slice x4 y4 z4⟩)) (fun i _=>l.length-(intOf i).toNat)
   case atStart=>exact⟨0,rfl,Nat.zero_le _,⟨fun j h h0=>absurd h0 (by omega),B1.out,X1.out⟩⟩
   case round=>
    clear c2 bF aE nU;obtain⟨k2,rfl,nU,H⟩:=hrel;obtain⟨_,_,_,c3,_⟩:=H.out.2.2.cells;by_cases aE:k2<l.length
    ·have bF:(k2:Int)<(l.length:Int):=by omega
     have cR:(k2:Int)<9223372036854775807:=by omega
     obtain⟨b,o,c,he,cQ,gq,iE,q',bT,bf⟩:=hr.out.tl.at k2 aE;have cy:=Value.slice.inj he;obtain⟨rfl,_,rfl⟩:=cy;clear he;have r0:=bJ (am bT H.out.2.1 cQ);have cA:=aa (bf.below H.out.2.1);obtain⟨a1,m1,d1,a2,m2,d2,a3,m3,d3,a4,m4,d4,rfl⟩:=bf.shape;clear bT bf;have hcall:=aa (ih'.out l[k2] ⟨.slice a1 m1 d1,.slice a2 m2 d2,.slice a3 m3 d3,.slice a4 m4 d4⟩ wr cA.out (z5.out _ (List.getElem_mem _)));obtain⟨y,hy⟩:∃y,ehd n l[k2]=y:=⟨_,rfl⟩
     simp only at r0;rw[hy]at hcall r0;unfold ecl at hcall;simp only at hcall;clear hy;obtain⟨PK,Mp⟩:∃P,Gq n l[k2]=P:=⟨_,rfl⟩
     have EZ:=aa Mp;rw[Mp]at hcall;clear Mp;go_wp2_with(go_at_call 45;refine ak.out ?_)
     refine ak.mk (hcall.out.mono ?_);rintro e w2 ⟨b2,rfl,oy,aq⟩;have qt:=aa oy;have B2:=aa (ac H.out.2.1 aq);have X2:=aa (H.out.2.2.below aq);clear oy aq;cases b2
     ·go_wp2_with fail
      go_ret;exact TB.no (fun z=>by have h1:=(Bg.out.1 z).2.2.2.2 k2 aE;rw[EZ.out]at h1;have:=qt.out.2 h1;cases this) B2.out
     go_wp2_with fail
     refine⟨⟨k2+1,by go_num,by omega,⟨fun j hj h0=>?_,B2.out,X2.out⟩⟩,by simp[intOf];omega⟩;by_cases oN:j=k2
     ·subst oN
      rw[EZ.out];exact qt.out.1 (by first|rfl|trivial)
     exact H.out.1 j hj (by omega)
    have bF:¬((k2:Int)<(l.length:Int)):=by omega
    go_wp2_with fail
    go_ret;exact TB.yes (Bg.out.2 ⟨f1.out.1,f1.out.2.1,f1.out.2.2,f2.out,fun i hi=>H.out.1 i hi (by omega)⟩) H.out.2.1
theorem Df:∀(n:Nat) (x:ET n) (q:Sl) (w:World),RE n w x q->aM n x<=200000 ->
  Calls prog 46 #[.agg (ecl (ehd n x) q)] w fun e w'=>e=.returned (.int .i64 (dN n x))/\Below w.heap.size w w':=by
 intro n
 induction n with
 |zero=>intro x;exact Empty.elim x
 |succ n ih=>
  intro x q w hr hs;obtain⟨⟨k,nm,nms,vn,val⟩,l⟩:=x;obtain⟨al,cl,cd,bB,br⟩:=hr.tl.len;obtain⟨an,cn,aQ,cm,df⟩:=hr.1.len;obtain⟨x1,y1,z1,x2,y2,z2,x3,y3,z3,x4,y4,z4,aK⟩:=hr.shape;subst aK;obtain⟨rfl,rfl,rfl⟩:=Value.slice.inj cd;obtain⟨rfl,rfl,rfl⟩:=Value.slice.inj aQ;clear cd aQ;simp only at cm df bB br;show Calls _ _ #[.agg (ecl ⟨k,nm,nms,vn,val⟩ ⟨.slice x1 nms.length z1,.slice x2 l.length z2,.slice x3 y3 z3,.slice x4 y4 z4⟩)] _ _;have eK:=aa hs;clear hs;have X0:=aa (ft w ⟨k,nm,nms,vn,val⟩ ⟨.slice x1 nms.length z1,.slice x2 l.length z2,.slice x3 y3 z3,.slice x4 y4 z4⟩);have b0:=aa (ab (o:=.cells (ecl ⟨k,nm,nms,vn,val⟩ ⟨.slice x1 nms.length z1,.slice x2 l.length z2,.slice x3 y3 z3,.slice x4 y4 z4⟩) 33) (Below.refl w.heap.size w));obtain⟨N,tV⟩:∃N,nms.length=N:=⟨_,rfl⟩
  have hr:=aa hr;have ih':=aa ih;clear ih;obtain⟨h,hh⟩:∃h:Eh,(⟨k,nm,nms,vn,val⟩:Eh)=h:=⟨_,rfl⟩
  have ml:maxLen=9223372036854775807:=rfl;obtain⟨vv,kB⟩:∃vv,aI vn val=vv:=⟨_,rfl⟩
  have ep:=aa kB;have Bf:=aa tV;rw[tV]at X0 b0 cm ⊢;have c0:=X0.out.cells;simp only[kB]at c0;unfold ecl at b0 X0 ⊢;simp only[kB]at b0 X0 ⊢;clear kB tV hh;go_enter func46,ntmps46;go_wp2_with fail
  clear c0;go_loopw [3,4] (fun m i w'=>∃k2:Nat,m=.int .i64 (jl ((l.map (dN n)).take k2):Nat)/\i=.int .i64 k2/\k2<=l.length/\Hid (Ex w' w.heap.size ⟨k,nm,nms,vn,val⟩ ⟨.slice x1 N z1,.slice x2 l.length z2,.slice x3 y3 z3,.slice x4 y4 z4⟩)/\Hid (Below w.heap.size w w')) (fun _ i _=>l.length-(intOf i).toNat)
  case atStart=>exact⟨0,rfl,rfl,Nat.zero_le _,X0.out,b0.out⟩
  case round=>
   obtain⟨k2,rfl,rfl,nU,hB,hb⟩:=hrel;obtain⟨_,_,_,c3,_⟩:=hB.out.cells;by_cases aE:k2<l.length
   ·have bF:(k2:Int)<(l.length:Int):=by omega
    have cR:(k2:Int)<9223372036854775807:=by omega
    have jo:aM n l[k2]<=200000:=by have h1:=iZ (n:=n) (x:=(⟨k,nm,nms,vn,val⟩,l)) aE;have h2:=eK.out;simp only at h1;omega
    obtain⟨b,o,c,he,cQ,gq,iE,q',bT,bf⟩:=hr.out.tl.at k2 aE;have cy:=Value.slice.inj he;obtain⟨rfl,_,rfl⟩:=cy;clear he;have r0:=bJ (am bT hb.out cQ);have cA:=aa (bf.below hb.out);obtain⟨a1,m1,d1,a2,m2,d2,a3,m3,d3,a4,m4,d4,rfl⟩:=bf.shape;clear bT bf;have hcall:=aa (ih'.out l[k2] ⟨.slice a1 m1 d1,.slice a2 m2 d2,.slice a3 m3 d3,.slice a4 m4 d4⟩ wr cA.out jo);obtain⟨y,hy⟩:∃y,ehd n l[k2]=y:=⟨_,rfl⟩
    simp only at r0;rw[hy]at hcall r0;unfold ecl at hcall;simp only at hcall;clear hy;obtain⟨D,hD⟩:∃D,dN n l[k2]=D:=⟨_,rfl⟩
    have eL:=mV (l.map (dN n)) k2 (by simpa using aE);rw[List.getElem_map,hD]at eL;rw[hD]at hcall;obtain⟨M,hM⟩:∃M,jl ((l.map (dN n)).take k2)=M:=⟨_,rfl⟩
    rw[hM]at eL ⊢;have ea:=aa eL;clear hD hM jo eL;rcases Nat.lt_trichotomy M D with bm|bm|bm
    ·have jE:(M:Int)<(D:Int):=by omega
     have Mk:¬((D:Int)<(M:Int)):=by omega
     go_wp2_with(go_at_call 46;refine hcall.out.mono ?_;rintro e w1 ⟨rfl,ai⟩)
     exact⟨⟨k2+1,by rw[ea.out];congr 2;omega,by go_num,by omega,hB.out.below ai,ac hb.out ai⟩,by simp[intOf];omega⟩
    ·subst bm
     have jE:¬((M:Int)<(M:Int)):=by omega
     go_wp2_with(go_at_call 46;refine hcall.out.mono ?_;rintro e w1 ⟨rfl,ai⟩)
     exact⟨⟨k2+1,by rw[ea.out];congr 2;omega,by go_num,by omega,hB.out.below ai,ac hb.out ai⟩,by simp[intOf];omega⟩
    have jE:(D:Int)<(M:Int):=by omega
    have Mk:¬((M:Int)<(D:Int)):=by omega
    go_wp2_with(go_at_call 46;refine hcall.out.mono ?_;rintro e w1 ⟨rfl,ai⟩)
    exact⟨⟨k2+1,by rw[ea.out];congr 2;omega,by go_num,by omega,hB.out.below ai,ac hb.out ai⟩,by simp[intOf];omega⟩
   have bF:¬((k2:Int)<(l.length:Int)):=by omega
   have hD:dN (n+1) (⟨k,nm,nms,vn,val⟩,l)=1+jl ((l.map (dN n)).take k2):=by simp only[dN];rw[List.take_of_length_le (by simp;omega)]
   have cC:1+jl ((l.map (dN n)).take k2)<=200000:=by rw[<-hD];exact Nat.le_trans (nr _ _) eK.out
   obtain⟨M,hM⟩:∃M,jl ((l.map (dN n)).take k2)=M:=⟨_,rfl⟩
   rw[hM]at cC hD ⊢;have jP:=aa hD;clear hD hM;have TC:(M:Int)<200000:=by omega
   clear cC;go_wp2_with fail
   go_ret;exact⟨by rw[jP.out];exact il (by omega),hb.out⟩
theorem CT:∀(n:Nat) (x:ET n) (q:Sl) (w:World),RE n w x q->aM n x<=200000 ->
  Calls prog 47 #[.agg (ecl (ehd n x) q)] w fun e w'=>e=.returned (.int .i64 (aM n x))/\Below w.heap.size w w':=by
 intro n
 induction n with
 |zero=>intro x;exact Empty.elim x
 |succ n ih=>
  intro x q w hr hs;obtain⟨⟨k,nm,nms,vn,val⟩,l⟩:=x;obtain⟨al,cl,cd,bB,br⟩:=hr.tl.len;obtain⟨an,cn,aQ,cm,df⟩:=hr.1.len;obtain⟨x1,y1,z1,x2,y2,z2,x3,y3,z3,x4,y4,z4,aK⟩:=hr.shape;subst aK;obtain⟨rfl,rfl,rfl⟩:=Value.slice.inj cd;obtain⟨rfl,rfl,rfl⟩:=Value.slice.inj aQ;clear cd aQ;simp only at cm df bB br;show Calls _ _ #[.agg (ecl ⟨k,nm,nms,vn,val⟩ ⟨.slice x1 nms.length z1,.slice x2 l.length z2,.slice x3 y3 z3,.slice x4 y4 z4⟩)] _ _;have eK:=aa hs;clear hs;have X0:=aa (ft w ⟨k,nm,nms,vn,val⟩ ⟨.slice x1 nms.length z1,.slice x2 l.length z2,.slice x3 y3 z3,.slice x4 y4 z4⟩);have b0:=aa (ab (o:=.cells (ecl ⟨k,nm,nms,vn,val⟩ ⟨.slice x1 nms.length z1,.slice x2 l.length z2,.slice x3 y3 z3,.slice x4 y4 z4⟩) 33) (Below.refl w.heap.size w));obtain⟨N,tV⟩:∃N,nms.length=N:=⟨_,rfl⟩
  have hr:=aa hr;have ih':=aa ih;clear ih;obtain⟨h,hh⟩:∃h:Eh,(⟨k,nm,nms,vn,val⟩:Eh)=h:=⟨_,rfl⟩
  have ml:maxLen=9223372036854775807:=rfl;obtain⟨vv,kB⟩:∃vv,aI vn val=vv:=⟨_,rfl⟩
  have ep:=aa kB;have Bf:=aa tV;rw[tV]at X0 b0 cm ⊢;have c0:=X0.out.cells;simp only[kB]at c0;unfold ecl at b0 X0 ⊢;simp only[kB]at b0 X0 ⊢;clear kB tV hh;go_enter func47,ntmps47;go_wp2_with fail
  clear c0;go_loopw [3,4] (fun m i w'=>∃k2:Nat,m=.int .i64 (1+aA ((l.map (aM n)).take k2):Nat)/\i=.int .i64 k2/\k2<=l.length/\Hid (Ex w' w.heap.size ⟨k,nm,nms,vn,val⟩ ⟨.slice x1 N z1,.slice x2 l.length z2,.slice x3 y3 z3,.slice x4 y4 z4⟩)/\Hid (Below w.heap.size w w')) (fun _ i _=>l.length-(intOf i).toNat)
  case atStart=>exact⟨0,rfl,rfl,Nat.zero_le _,X0.out,b0.out⟩
  case round=>
   obtain⟨k2,rfl,rfl,nU,hB,hb⟩:=hrel;obtain⟨_,_,_,c3,_⟩:=hB.out.cells;obtain⟨M,hM⟩:∃M,1+aA ((l.map (aM n)).take k2)=M:=⟨_,rfl⟩
   have qb:M<=200000:=by have h1:=eo (l.map (aM n)) k2;have h2:=eK.out;simp only[aM]at h2;omega
   by_cases aE:k2<l.length
   ·have bF:(k2:Int)<(l.length:Int):=by omega
    have cR:(k2:Int)<9223372036854775807:=by omega
    have jo:aM n l[k2]<=200000:=by have h1:=iZ (n:=n) (x:=(⟨k,nm,nms,vn,val⟩,l)) aE;have h2:=eK.out;simp only at h1;omega
    obtain⟨b,o,c,he,cQ,gq,iE,q',bT,bf⟩:=hr.out.tl.at k2 aE;have cy:=Value.slice.inj he;obtain⟨rfl,_,rfl⟩:=cy;clear he;have r0:=bJ (am bT hb.out cQ);have cA:=aa (bf.below hb.out);obtain⟨a1,m1,d1,a2,m2,d2,a3,m3,d3,a4,m4,d4,rfl⟩:=bf.shape;clear bT bf;have hcall:=aa (ih'.out l[k2] ⟨.slice a1 m1 d1,.slice a2 m2 d2,.slice a3 m3 d3,.slice a4 m4 d4⟩ wr cA.out jo);obtain⟨y,hy⟩:∃y,ehd n l[k2]=y:=⟨_,rfl⟩
    simp only at r0;rw[hy]at hcall r0;unfold ecl at hcall;simp only at hcall;clear hy;obtain⟨D,hD⟩:∃D,aM n l[k2]=D:=⟨_,rfl⟩
    have eL:=cZ (l.map (aM n)) k2 (by simpa using aE);rw[List.getElem_map,hD]at eL;rw[hD]at hcall jo;have eL:1+aA ((l.map (aM n)).take (k2+1))=M+D:=by omega
    rw[hM];have ea:=aa eL;have Cg:(D:Int)<=200000:=by omega
    have TD:(M:Int)<=200000:=by omega
    clear hD hM jo eL qb;go_wp2_with(go_at_call 47;refine hcall.out.mono ?_;rintro e w1 ⟨rfl,ai⟩)
    exact⟨⟨k2+1,by rw[ea.out];first|rfl|(congr 1),by go_num,by omega,hB.out.below ai,ac hb.out ai⟩,by simp[intOf];omega⟩
   have bF:¬((k2:Int)<(l.length:Int)):=by omega
   have hD:aM (n+1) (⟨k,nm,nms,vn,val⟩,l)=M:=by rw[<-hM];simp only[aM];rw[List.take_of_length_le (by simp;omega)]
   rw[hM];have jP:=aa hD;clear hD hM qb;go_wp2_with fail
   go_ret;exact⟨by rw[jP.out];rfl,hb.out⟩
variable {dq : {_f : (p : Prop) → Decidable p // True}}
theorem pM:∀(n:Nat) (x:ET n),fd od n x↔fd jc n x/\fd rr n x
 |0,x=>Empty.elim x
 |n+1,x=>by
  constructor
  ·rintro⟨⟨a,b⟩,c⟩
   exact⟨⟨a,fun i h=>((pM n _).1 (c i h)).1⟩,⟨b,fun i h=>((pM n _).1 (c i h)).2⟩⟩
  rintro⟨⟨a,c⟩,⟨b,d⟩⟩;exact⟨⟨a,b⟩,fun i h=>(pM n _).2 ⟨c i h,d i h⟩⟩
theorem zQ(ns:List ByteArray)(m:Nat)(hm:ns.length=m):yc 2 ((lJ 8 aR ns,List.replicate m fQ):VT 2)↔m<=256/\∀s∈ns,s.size<=64:=by
 have hv:yg 1 fQ:=⟨by decide,by simp[fQ,vH],by simp[fQ,vH],fun y hy=>absurd hy (by simp[fQ,vH])⟩
 have d1:∀m,jl (List.map (rx 1) (List.replicate m fQ))<=1:=fun m=>by
  induction m with
  |zero=>simp[jl]
  |succ m ih=>
   rw[List.replicate_succ,List.map_cons];simp only[jl];have:rx 1 fQ=1:=rfl;omega
 have d2:∀m,aA (List.map (jA 1) (List.replicate m fQ))=m:=fun m=>by
  induction m with
  |zero=>simp[aA]
  |succ m ih=>
   rw[List.replicate_succ,List.map_cons];simp only[aA];have:jA 1 fQ=1:=rfl;omega
 constructor
 ·rintro⟨⟨_,h1,h2,_⟩,_,_⟩
  exact⟨by simpa using h1,h2⟩
 rintro⟨h1,h2⟩;refine⟨⟨show((ByteArray.size ⟨#[]⟩:Nat):Int)<=(bif (8:Int)==9 then 64 else 4096)by decide,by simpa using h1,h2,fun y hy=>by rw[List.eq_of_mem_replicate hy];exact hv⟩,?_,?_⟩
 ·show 1+jl (List.map (rx 1) (List.replicate m fQ))<=16
  have:=d1 m;omega
 show 1+aA (List.map (jA 1) (List.replicate m fQ))<=4096;rw[d2];omega
theorem Cp{n:Nat}{v:VT n}(hl:Lf n v)(hk:jI (aI n v).kind):yc n v↔(aI n v).text.size<=4096:=by
 cases n with
 |zero=>exact Empty.elim v
 |succ n=>
  obtain⟨vh,vl⟩:=v;obtain⟨l1,l2⟩:=hl;simp only at l1 l2;subst l2;have h9:(vh.kind==9)=false:=by have hk:jI vh.kind:=hk;unfold jI at hk;simp;omega
  constructor
  ·rintro⟨⟨h1,_⟩,_⟩
   rw[show((vh,[]):VT (n+1)).1=vh from rfl,h9]at h1;show vh.text.size<=4096;simp at h1;omega
  intro h;have h:vh.text.size<=4096:=h;refine⟨⟨?_,by simp,by rw[show((vh,[]):VT (n+1)).1.names=[]from l1];simp,fun y hy=>absurd hy (by simp)⟩,by show 1+0<=16;omega,by show 1+0<=4096;omega⟩;rw[show((vh,[]):VT (n+1)).1=vh from rfl,h9];simp;omega
theorem GL{n:Nat}{x:ET (n+1)}(h:jT n x):(x.1.name.size<=64/\x.1.names.length<=256/\(aI x.1.vn x.1.val).text.size<=4096/\∀s∈x.1.names,s.size<=64)↔wv (n+1) x:=by
 obtain⟨⟨k,nm,nms,vn,val⟩,l⟩:=x;obtain⟨⟨⟨b1,b2⟩,b3,b4,b5,b6⟩,h4,iK,h7,hv⟩:=h;simp only at b1 b2 b3 b4 b5 b6;have Jv:iL _ (cX ⟨k,nm,nms,vn,val⟩ l.length).2:=hv;have e0:wv (n+1) (⟨k,nm,nms,vn,val⟩,l)↔yc _ (cX ⟨k,nm,nms,vn,val⟩ l.length).2:=⟨fun q=>q.2,fun q=>⟨Jv,q⟩⟩
 rw[e0];simp only;have z4:VZ vn val->(aI vn val).text.size<=4096:=fun hz=>by rw[(Jb hz).2];decide
 by_cases k2:k=2\/k=5
 ·have e:cX ⟨k,nm,nms,vn,val⟩ l.length=⟨2,(lJ 9 nm [],List.replicate 1 fQ)⟩:=by unfold cX;rw[if_pos (by simp only;omega)]
  have hn:nms=[]:=by rcases b4 with q|q|q;omega;omega;exact q
  have hz:VZ vn val:=by rcases b6 with q|q;omega;exact q
  rw[e];refine Iff.trans ?_ (yt nm).symm;subst hn;exact⟨fun q=>q.1,fun q=>⟨q,by simp,z4 hz,fun s hs=>absurd hs (by simp)⟩⟩
 have Gf:nm=⟨#[]⟩:=by rcases b3 with q|q|q;omega;omega;exact q
 subst Gf;have lI:(ByteArray.size ⟨#[]⟩)<=64:=by decide
 by_cases k3:k=3\/k=6
 ·have e:cX ⟨k,⟨#[]⟩,nms,vn,val⟩ l.length=⟨2,(lJ 8 aR nms,List.replicate l.length fQ)⟩:=by unfold cX;rw[if_neg (by simp only;omega),if_pos (by simp only;omega)]
  have hz:VZ vn val:=by rcases b6 with q|q;omega;exact q
  rw[e]at Jv ⊢;have hl:=((yN l.length).1 Jv).1;refine Iff.trans ?_ (zQ nms l.length hl).symm;exact⟨fun q=>⟨by omega,q.2.2.2⟩,fun q=>⟨lI,by omega,z4 hz,q.2⟩⟩
 have hn:nms=[]:=by rcases b4 with q|q|q;omega;omega;exact q
 subst hn;by_cases k7:k=7
 ·subst k7
  have e:cX ⟨7,⟨#[]⟩,[],vn,val⟩ l.length=⟨vn,val⟩:=by simp[cX]
  rw[e]at Jv ⊢;have hc:jI (aI vn val).kind:=h7 rfl;refine Iff.trans ?_ (Cp (JO Jv hc) hc).symm;exact⟨fun q=>q.2.2.1,fun q=>⟨lI,by simp,q,fun s hs=>absurd hs (by simp)⟩⟩
 have e:cX ⟨k,⟨#[]⟩,[],vn,val⟩ l.length=⟨1,fQ⟩:=by unfold cX;rw[if_neg (by simp only;omega),if_neg (by simp only;omega),if_neg (by simp only;omega)]
 have hz:VZ vn val:=by rcases b6 with q|q;omega;exact q
 rw[e];refine⟨fun _=>⟨⟨by decide,by simp[fQ,vH],by simp[fQ,vH],fun y hy=>absurd hy (by simp[fQ,vH])⟩,by decide,by decide⟩,fun _=>⟨lI,by simp,z4 hz,fun s hs=>absurd hs (by simp)⟩⟩
theorem rP:∀(n:Nat) (x:ET n),fd od n x->(Gq n x↔fd wv n x)
 |0,x,_=>Empty.elim x
 |n+1,x,h=>by
  have h1:=GL h.1;constructor
  ·rintro⟨a,b,c,d,e⟩
   exact⟨h1.1 ⟨a,b,c,d⟩,fun i hi=>(rP n _ (h.2 i hi)).1 (e i hi)⟩
  rintro⟨a,e⟩;obtain⟨p,q,r,s⟩:=h1.2 a;exact⟨p,q,r,s,fun i hi=>(rP n _ (h.2 i hi)).2 (e i hi)⟩
theorem uA(rv:tL)(n:Nat)(x:ET n)(q:Sl)(w:World)(hr:RE n w x q)(hz:zN n x)(hs:aM n x<=200000):Calls prog 18 #[.agg (ecl (ehd n x) q)] w fun e w'=>e=.returned (.int .i64 (mX dq n x))/\Below w.heap.size w w':=by
 have hF:=aa (fun W (hb:Below w.heap.size w W)=>Ap rv n x q W (hr.below hb) hz);have hS:=aa (fun W (hb:Below w.heap.size w W)=>CU n x q W (hr.below hb) hz);have hD:=aa (fun W (hb:Below w.heap.size w W)=>Df n x q W (hr.below hb) hs);have hZ:=aa (fun W (hb:Below w.heap.size w W)=>CT n x q W (hr.below hb) hs);have hL:Hid (mX dq n x=@ite _ (¬fd od n x) (dq.1 _) 140 (@ite _ (Gq n x/\dN n x<=16/\aM n x<=512) (dq.1 _) 0 2)):=by
  show _=_;unfold mX;by_cases a:fd od n x
  ·rw[if_neg (show ¬ ¬(fd jc n x/\fd rr n x)from fun h=>h ((pM n x).1 a)),if_neg (show ¬ ¬fd od n x from fun h=>h a)]
   by_cases b:fd wv n x/\dN n x<=16/\aM n x<=512
   ·rw[if_pos b,if_pos ⟨(rP n x a).2 b.1,b.2⟩]
   rw[if_neg b,if_neg (fun c=>b ⟨(rP n x a).1 c.1,c.2⟩)]
  rw[if_pos (show ¬(fd jc n x/\fd rr n x)from fun h=>a ((pM n x).2 h)),if_pos (show ¬fd od n x from a)]
 have jN:=Nat.le_trans (nr n x) hs;obtain⟨x1,y1,z1,x2,y2,z2,x3,y3,z3,x4,y4,z4,aK⟩:=hr.shape;subst aK;obtain⟨h,hh⟩:∃h,ehd n x=h:=⟨_,rfl⟩
 obtain⟨P,hP⟩:∃P,fd od n x=P:=⟨_,rfl⟩
 obtain⟨R,hR⟩:∃P,Gq n x=P:=⟨_,rfl⟩
 obtain⟨D,oz⟩:∃D,dN n x=D:=⟨_,rfl⟩
 obtain⟨Z,zx⟩:∃D,aM n x=D:=⟨_,rfl⟩
 obtain⟨L,vR⟩:∃D,mX dq n x=D:=⟨_,rfl⟩
 rw[hP]at hF hL;rw[hR]at hS hL;rw[oz]at hD hL jN;rw[zx]at hZ hL hs;rw[vR]at hL ⊢;rw[hh]at hF hS hD hZ ⊢;have X0:=aa (ft w h ⟨.slice x1 y1 z1,.slice x2 y2 z2,.slice x3 y3 z3,.slice x4 y4 z4⟩);have b0:=aa (ab (o:=.cells (ecl h ⟨.slice x1 y1 z1,.slice x2 y2 z2,.slice x3 y3 z3,.slice x4 y4 z4⟩) 33) (Below.refl w.heap.size w));have c0:=X0.out.cells;simp only at c0;unfold ecl at hF hS hD hZ b0 ⊢;simp only at hF hS hD hZ b0 ⊢;clear hr hz hP hR oz zx vR hh;go_enter func18,ntmps18;go_wp2_with(go_at_call 44;refine ak.out ?_)
 refine ak.mk ((hF.out _ b0.out).mono ?_);rintro e w1 ⟨b1,rfl,hT,ai⟩;have eN:=aa hT;have B1:=aa (ac b0.out ai);have X1:=aa (X0.out.below ai);have c1:=X1.out.cells;simp only at c1;clear hT ai c0 X0;cases b1
 ·have hl:L=140:=by rw[hL.out,if_pos (fun z=>by have:=eN.out.2 z;cases this)]
  subst hl;go_wp2_with fail
  go_ret;exact⟨by first|rfl|trivial,B1.out⟩
 have hp:P:=eN.out.1 (by first|rfl|trivial);have Rj:Hid (L=@ite _ (R/\D<=16/\Z<=512) (dq.1 _) 0 2):=by show _=_;rw[hL.out,if_neg (fun z=>z hp)]
 clear hp hL;go_wp2_with(go_at_call 45;refine ak.out ?_)
 refine ak.mk ((hS.out _ B1.out).mono ?_);rintro e w2 ⟨b2,rfl,oy,aq⟩;have qt:=aa oy;have B2:=aa (ac B1.out aq);have X2:=aa (X1.out.below aq);have c2:=X2.out.cells;simp only at c2;clear oy aq c1 X1;cases b2
 ·have hl:L=2:=by rw[Rj.out,if_neg (fun z=>by have:=qt.out.2 z.1;cases this)]
  subst hl;go_wp2_with fail
  go_ret;exact⟨by first|rfl|trivial,B2.out⟩
 have zl:Hid R:=qt.out.1 (by first|rfl|trivial);go_wp2_with(go_at_call 46;refine ak.out ?_)
 refine ak.mk ((hD.out _ B2.out).mono ?_);rintro e w3 ⟨rfl,ar⟩;have B3:=aa (ac B2.out ar);have X3:=aa (X2.out.below ar);have c3:=X3.out.cells;simp only at c3;clear ar c2 X2;by_cases e16:(16:Int)<(D:Int)
 ·have hl:L=2:=by rw[Rj.out,if_neg (fun z=>by omega)]
  subst hl;go_wp2_with fail
  go_ret;exact⟨by first|rfl|trivial,B3.out⟩
 go_wp2_with(go_at_call 47;refine ak.out ?_)
 refine ak.mk ((hZ.out _ B3.out).mono ?_);rintro e w4 ⟨rfl,aO⟩;have B4:=aa (ac B3.out aO);clear aO c3 X3;by_cases e512:(512:Int)<(Z:Int)
 ·have hl:L=2:=by rw[Rj.out,if_neg (fun z=>by omega)]
  subst hl;go_wp2_with fail
  go_ret;exact⟨by first|rfl|trivial,B4.out⟩
 have hl:L=0:=by rw[Rj.out,if_pos ⟨zl.out,by omega,by omega⟩]
 subst hl;go_wp2_with fail
 go_ret;exact⟨by first|rfl|trivial,B4.out⟩
theorem cH(s:ByteArray)(w:World):Calls prog 88 #[.string s] w fun e w'=>e=.returned (.agg #[.int .i64 4,.string s,.int .i64 0])/\Below w.heap.size w w':=by
 go_enter func88,ntmps88;go_wp2_with fail
 refine bodyPost_ret (v:=.agg #[.int .i64 4,.string s,.int .i64 0]) (by simp[results,Tryz.results88,go_sem, *]) rfl ⟨rfl,?_⟩
 (repeat (refine Below.setCell ?_ (by show w.heap.size<=w.heap.size;omega) _))
 exact ab af
theorem dI(s:ByteArray)(w:World):Calls prog 91 #[.string s] w fun e w'=>e=.returned (.agg #[.int .i64 1,.string s,.int .i64 0])/\Below w.heap.size w w':=by
 go_enter func91,ntmps91;go_wp2_with fail
 refine bodyPost_ret (v:=.agg #[.int .i64 1,.string s,.int .i64 0]) (by simp[results,Tryz.results91,go_sem, *]) rfl ⟨rfl,?_⟩
 (repeat (refine Below.setCell ?_ (by show w.heap.size<=w.heap.size;omega) _))
 exact ab af
theorem DA(l:List UInt8)(h:l.length<=64):de l=if iU l=true then wd l else ⟨2,l,0⟩:=by
 unfold de;have e:(kS [wd l]).1=0↔iU l=true:=by
  rw[<-Jo];constructor
  ·intro k
   exact(Kz k).1 (wd l) (by simp)
  intro k;refine Ky (fun t ht=>?_) (by simp) (fun t ht=>?_) ?_
  ·rw[List.mem_singleton.1 ht];exact k
  ·rw[List.mem_singleton.1 ht];exact h
  show(jn [cF (wd l)]).length<=4096;have:(jn [cF (wd l)])=l:=rfl;rw[this];omega
 by_cases k:iU l=true
 ·rw[if_pos (e.2 k),if_pos k]
 rw[if_neg (fun q=>k (e.1 q)),if_neg k]
theorem lU(s:ByteArray)(w:World)(hs:s.size<=64):Calls prog 89 #[.string s] w fun e w'=>e=.returned (dO (de (bl s)))/\Below w.heap.size w w':=by
 have hn:=aa (fun W=>qY s W (by omega));have hw:=aa (fun W=>dI s W);have en:=DA (bl s) (by rw[bl_length];exact hs);obtain⟨N,hN⟩:∃N,de (bl s)=N:=⟨_,rfl⟩
 have ES:Hid (aj (bl s)=s):=dh s;rw[hN]at en ⊢;have Z0:=aa (show(w.alloc (.cells #[.int .i64 0,.string ⟨#[]⟩,.int .i64 0] 88)).heap[w.heap.size]?=some (.cells #[.int .i64 0,.string ⟨#[]⟩,.int .i64 0] 88 (0,0))from Array.getElem?_push_size);clear hN;cases hb:iU (bl s)
 ·rw[hb]at en
  have e2:Hid (N=⟨2,bl s,0⟩):=by show _=_;rw[en];rfl
  rw[hb]at hn;clear en hb;go_enter func89,ntmps89;go_wp2_with(go_at_call 140;refine ak.out ?_)
  refine ak.mk ((hn.out _).mono ?_);rintro e w1 ⟨rfl,rfl⟩;go_wp2_with fail
  refine bodyPost_ret (v:=dO N) (by rw[e2.out];simp[results,Tryz.results89,go_sem,dO,ES.out, *]) rfl ⟨rfl,?_⟩
  (repeat (refine Below.setCell ?_ (by show w.heap.size<=w.heap.size;omega) _))
  exact ab af
 rw[hb]at en;have e2:Hid (N=wd (bl s)):=by show _=_;rw[en];rfl
 rw[hb]at hn;clear en hb;go_enter func89,ntmps89;go_wp2_with(go_at_call 140;refine ak.out ?_)
 refine ak.mk ((hn.out _).mono ?_);rintro e w1 ⟨rfl,rfl⟩;go_wp2_with(go_at_call 91;refine ak.out ?_)
 refine ak.mk ((hw.out _).mono ?_);rintro e w2 ⟨rfl,aq⟩;have z1:w.heap.size<(w.alloc (.cells #[.int .i64 0,.string ⟨#[]⟩,.int .i64 0] 88)).heap.size:=by simp
 have Z2:=aa ((aq.block w.heap.size z1).trans Z0.out);have B2:=aa (ac (ab af) aq);clear aq Z0;have k0:w2.cell? ⟨w.heap.size,0,none⟩=some (.int .i64 0)/\w2.cell? ⟨w.heap.size,1,none⟩=some (.string ⟨#[]⟩)/\w2.cell? ⟨w.heap.size,2,none⟩=some (.int .i64 0):=by refine⟨?_,?_,?_⟩<;>(unfold World.cell?;rw[Z2.out];rfl)
 have kf:∀j,w2.frozen? ⟨w.heap.size,j,none⟩=false:=fun j=>by have:=Z2.out;simp[World.frozen?,this]
 go_wp2_with fail
 refine bodyPost_ret (v:=dO N) (by rw[e2.out];simp[results,Tryz.results89,go_sem,dO,wd,ES.out, *]) rfl ⟨rfl,?_⟩
 (repeat (refine Below.setCell ?_ (by show w.heap.size<=w.heap.size;omega) _))
 exact B2.out
structure PS(w:World)(h:Eh)(q:Sl)(b o:Nat)(s:ByteArray)(lb lo:Nat)(y:Eh)(qy:Sl)(W:World):Prop where
 bel:Below w.heap.size w W
 ex:Ex W w.heap.size h q
 nc:W.cell? ⟨b,o,none⟩=some (.string s)
 nl:b<w.heap.size
 yr:W.rangeAt lb lo (ecl y qy).toList
 yl:lb<w.heap.size
section
variable {w : World} {h : Eh} {q : Sl} {b o : Nat} {s : ByteArray} {lb lo : Nat} {y : Eh} {qy : Sl} {W W1 : World}
theorem PS.to(H:PS w h q b o s lb lo y qy W)(hb:Below (w.heap.size+1) W W1):PS w h q b o s lb lo y qy W1 :=
 ⟨H.bel.trans (hb.mono (by omega)),⟨(hb.block w.heap.size (by omega)).trans H.ex.at_⟩,(World.cell?_of_block (hb.block b (by have:=H.nl;omega))).trans H.nc,H.nl,fun j v hj=>(World.cell?_of_block (hb.block lb (by have:=H.yl;omega))).trans (H.yr j v hj),H.yl⟩
theorem PS.sz(H:PS w h q b o s lb lo y qy W):w.heap.size+1<=W.heap.size:=H.ex.lt
theorem PS.up(H:PS w h q b o s lb lo y qy W)(hb:Below W.heap.size W W1):PS w h q b o s lb lo y qy W1:=H.to (hb.mono H.sz)
theorem PS.al{ob:Obj}(H:PS w h q b o s lb lo y qy W):PS w h q b o s lb lo y qy (W.alloc ob):=H.up (ab af)
end
def vJ(n:Nat):Prop:=∀(x:ET n) (q:Sl) (w:World),RE n w x q->mo n x->aM n x<=512->Calls prog 43 #[.agg (ecl (ehd n x) q)] w fun e w'=>bE (bp n x) w e w'
theorem lD(W:World)(B:Nat)(c:UInt8)(hB:B<=W.heap.size):OT (W.alloc (.cells #[.int .i64 4,.string ⟨#[c]⟩,.int .i64 0] 88)) B (.slice (some ⟨W.heap.size,0,none⟩) 1 1) [mk [c]]:=bv W B (mk [c]) hB
theorem CC(W:World)(B:Nat)(t:Tk)(c:UInt8)(hB:B<=W.heap.size):OT (W.alloc (.cells #[.int .i64 t.w,.string (aj t.s),.int .i64 t.p,.int .i64 4,.string ⟨#[c]⟩,.int .i64 0] 88)) B (.slice (some ⟨W.heap.size,0,none⟩) 2 2) [t,mk [c]]:=fg W B t (mk [c]) hB
theorem pD{n:Nat}(ih:vJ n)(h:Eh)(l:List (ET n))(q:Sl)(w:World)(hr:RE (n+1) w (h,l) q)(aL:h.names.length=l.length)(Fe:∀s∈h.names,s.size<=64)(lp:∀y∈l,mo n y/\aM n y<=512)(nT:l.length<=100000)(hz:(io [61] h.names (l.map (bp n))).length<=1000000):Calls prog 90 #[.agg (ecl h q)] w fun e w'=>bE (io [61] h.names (l.map (bp n))) w e w':=by
 obtain⟨al,cl,cd,bB,br⟩:=hr.tl.len;obtain⟨an,cn,aQ,cm,df⟩:=hr.1.len;obtain⟨x1,y1,z1,x2,y2,z2,x3,y3,z3,x4,y4,z4,aK⟩:=hr.shape;subst aK;obtain⟨rfl,rfl,rfl⟩:=Value.slice.inj cd;obtain⟨rfl,rfl,rfl⟩:=Value.slice.inj aQ;clear cd aQ;simp only at cm df bB br;show Calls _ _ #[.agg (ecl h ⟨.slice x1 h.names.length z1,.slice x2 l.length z2,.slice x3 y3 z3,.slice x4 y4 z4⟩)] _ _;obtain⟨I,hI⟩:∃I,mY [61] h.names (l.map (bp n))=I:=⟨_,rfl⟩
 have zz:I.length=h.names.length:=by rw[<-hI];exact sE _ _ _ (by simp[aL])
 have vr:Hid (∀k (h1:k<h.names.length) (h2:k<l.length) (h3:k<I.length),I[k]=de (bl h.names[k])::mk [61]::bp n l[k]):=fun k h1 h2 h3=>by subst hI;rw[sF [61] h.names _ k h1 (by simpa using h2)];simp
 have hN:io [61] h.names (l.map (bp n))=fM [123] (aU (mk [44]) I) [125]:=by rw[<-hI];rfl
 rw[hN]at hz ⊢;have eR:Hid ((aU (mk [44]) I).length<=1000000):=by show _<=_;simp only[fM,List.length_cons,List.length_append]at hz;omega
 obtain⟨N,gl⟩:∃N,h.names.length=N:=⟨_,rfl⟩
 have Ri:N<=100000:=by omega
 have sP:Hid (l.length=N):=by show _=_;rw[<-gl,aL]
 have Ez:=aa gl;have eB:Hid (I.length=N):=zz.trans gl;have HR:=aa hr;have H64:=aa Fe;have HC:=aa lp;have IH:=aa ih;have X0:=aa (ft w h ⟨.slice x1 h.names.length z1,.slice x2 l.length z2,.slice x3 y3 z3,.slice x4 y4 z4⟩);have b0:=aa (ab (o:=.cells (ecl h ⟨.slice x1 h.names.length z1,.slice x2 l.length z2,.slice x3 y3 z3,.slice x4 y4 z4⟩) 33) (Below.refl w.heap.size w));rw[sP.out]at bB;rw[gl]at cm;simp only[gl,sP.out]at X0 b0 ⊢;clear hz hr ih lp Fe aL zz hI hN gl nT;obtain⟨vv,kB⟩:∃vv,aI h.vn h.val=vv:=⟨_,rfl⟩
 unfold ecl at X0 b0 ⊢;simp only[kB]at X0 b0 ⊢;have ep:=aa kB;clear kB;go_enter func90,ntmps90;go_wp2_with(go_at_call 88;refine ak.out ?_)
 refine ak.mk ((cH _ _).mono ?_);rintro e w1 ⟨rfl,ai⟩;have B1:=aa (ac b0.out ai);have X1:=aa (X0.out.below ai);have s1:w.heap.size+1<=w1.heap.size:=X1.out.lt;have O1:=aa (lD w1 (w.heap.size+1) 123 s1);have X2:=aa (X1.out.below (ab (o:=.cells #[.int .i64 4,.string ⟨#[123]⟩,.int .i64 0] 88) af));have B2:=aa (B1.out.alloc B1.out.size (.cells #[.int .i64 4,.string ⟨#[123]⟩,.int .i64 0] 88));clear ai B1 X1 X0;go_wp2_with fail
 go_loopw [3,4] (fun t i W=>∃k2:Nat,i=.int .i64 k2/\k2<=N/\Hid (OT W (w.heap.size+1) t (mk [123]::aU (mk [44]) (I.take k2))/\Below w.heap.size w W/\Ex W w.heap.size h ⟨.slice x1 N z1,.slice x2 N z2,.slice x3 y3 z3,.slice x4 y4 z4⟩)) (fun _ i _=>N-(intOf i).toNat)
 case atStart=>exact⟨0,rfl,Nat.zero_le _,by simpa [aU] using O1.out,B2.out,X2.out⟩
 case round=>
  clear O1 X2 B2 b0 s1;obtain⟨k2,rfl,nU,H⟩:=hrel;have O0:=aa H.out.1;have B0:=aa H.out.2.1;have X0:=aa H.out.2.2;obtain⟨ta,tc,rfl⟩:=H.out.1.shape;have dP:Hid ((aU (mk [44]) (I.take k2)).length<=1000000):=by show _<=_;exact Nat.le_trans (jh _ _ _) eR.out
  clear H;by_cases ix:k2<N
  ·have bF:(k2:Int)<(N:Int):=by omega
   have ri:k2<h.names.length:=by rw[Ez.out];exact ix
   have aE:k2<l.length:=by rw[sP.out];exact ix
   have EI:k2<I.length:=by rw[eB.out];exact ix
   have zu:=aa (vr.out k2 ri aE EI);have cb:=aa (dY (mk [44]) I k2 EI);have oM:Hid ((bp n (l[k2]'(aE))).length<=1000000):=by have h1:=mK (mk [44]) I k2 EI;rw[zu.out]at h1;have:=eR.out;show _<=_;simp only[List.length_cons]at h1;omega
   obtain⟨nb,no,gn,aQ,BZ,Ey,Ew,LV⟩:=HR.out.1.at k2 ri;simp only[Ez.out]at aQ;obtain⟨rfl, -,rfl⟩:=Value.slice.inj aQ;clear aQ Ey Ew;obtain⟨lb,lo,lc9,cd,ic,lm,ni,qy,bT,bf⟩:=HR.out.tl.at k2 aE;simp only[sP.out]at cd;obtain⟨rfl, -,rfl⟩:=Value.slice.inj cd;clear cd lm ni;obtain⟨b1,b2,b3,b4,b5,b6,b7,b8,b9,b10,b11,b12,aK⟩:=bf.shape;subst aK;have hcall:=aa (fun W (hb:Below w.heap.size w W)=>IH.out (l[k2]'(aE)) _ W (bf.below hb) (HC.out _ (List.getElem_mem _)).1 (HC.out _ (List.getElem_mem _)).2);have LE:=aa (H64.out _ (List.getElem_mem ri));simp only at LV bT;obtain⟨s,hs⟩:∃s,h.names[k2]=s:=⟨_,rfl⟩
   obtain⟨y,hy⟩:∃y,ehd n (l[k2]'(aE))=y:=⟨_,rfl⟩
   obtain⟨M,hM⟩:∃M,bp n (l[k2]'(aE))=M:=⟨_,rfl⟩
   rw[hs]at LV LE zu;rw[hy]at hcall bT;rw[hM]at hcall oM zu;have P0:=aa (PS.mk (w:=w) B0.out X0.out ((B0.out.cell (p:=⟨nb,no+k2,none⟩) BZ).trans LV) BZ (am bT B0.out ic) ic);have hn:=aa (fun W=>lU s W LE.out);unfold bE at hcall;unfold ecl at hcall;simp only at hcall;clear hs hy hM LV bT bf LE B0 X0 BZ ic;by_cases eM:k2=0
   ·have nj:¬(0:Int)<(k2:Int):=by omega
    have jW:Hid (aU (mk [44]) (I.take (k2+1))=de (bl s)::mk [61]::M):=by show _=_;rw[cb.out,if_pos eM,zu.out]
    have ek:mk [123]::aU (mk [44]) (I.take k2)=[mk [123]]:=by rw[eM];simp[aU]
    have el:(mk [123]::aU (mk [44]) (I.take k2)).length=1:=by rw[ek];rfl
    rw[ek]at O0;have e1:([mk [123]]:List Tk).length=1:=rfl;rw[e1]at O0;rw[el];have hL:Hid (([mk [123]]:List Tk).length<=1000100):=by show _<=_;simp
    clear cb dP zu ek el e1 eM EI aE ri;obtain⟨L0,vq⟩:∃L,([mk [123]]:List Tk)=L:=⟨_,rfl⟩
    have sX:=aa vq;rw[vq]at O0 hL;clear vq;have cn:=P0.out.nc;have c0:=P0.out.ex.cells;simp only[ep.out]at c0;go_wp2_with(go_at_call 89;refine ak.out ?_)
    refine ak.mk ((hn.out _).mono ?_);rintro e w3 ⟨rfl,ar⟩;have P4:=aa (P0.out.up ar);have O4:=aa (O0.out.below ar);clear ar P0 O0 cn c0;unfold dO;go_wp2_with(go_at_call 88;refine ak.out ?_)
    refine ak.mk ((cH _ _).mono ?_);rintro e w4 ⟨rfl,aO⟩;have P5:=aa (P4.out.up aO);have M5:=aa (CC w4 (w.heap.size+1) (de (bl s)) 61 P5.out.sz);have O5:=aa ((O4.out.below aO).below (ab (o:=.cells #[.int .i64 (de (bl s)).w,.string (aj (de (bl s)).s),.int .i64 (de (bl s)).p,.int .i64 4,.string ⟨#[61]⟩,.int .i64 0] 88) af));have P6:=aa (P5.out.al (ob:=.cells #[.int .i64 (de (bl s)).w,.string (aj (de (bl s)).s),.int .i64 (de (bl s)).p,.int .i64 4,.string ⟨#[61]⟩,.int .i64 0] 88));clear aO P4 P5 O4;go_wp2_with(at_builtin;refine ak.out ?_)
    refine ak.mk ?_;refine aZ rfl (.tmp 20) (.tmp 28) rfl (w.heap.size+1) (.slice ta 1 tc) L0 rfl O5.out (w.heap.size+1) (.slice (some ⟨w4.heap.size,0,none⟩) 2 2) [de (bl s),mk [61]] rfl M5.out (by have:=hL.out;simp;omega) P6.out.sz ?_;intro va vn9 vc w5 o5 bg;have P7:=aa (P6.out.to bg.out);have c7:=P7.out.ex.cells;have r7:=bJ P7.out.yr;simp only[ep.out]at c7;simp only at r7;clear bg P6 M5 O5;go_wp2_with(go_at_call 43;refine ak.out ?_)
    refine ak.mk ((hcall.out _ P7.out.bel).mono ?_);rintro e w6 ⟨v6,rfl,Fb,da⟩;have P8:=aa (P7.out.up da);have O8:=aa (o5.out.below da);have O6:=aa Fb;clear da Fb P7 o5 c7 r7;go_wp2_with(at_builtin;refine ak.out ?_)
    refine ak.mk ?_;refine aZ rfl (.tmp 30) (.tmp 36) rfl (w.heap.size+1) (.slice va vn9 vc) (L0++[de (bl s),mk [61]]) rfl O8.out w5.heap.size v6 M rfl O6.out (by have h1:=hL.out;have h2:=oM.out;simp;omega) P8.out.sz ?_;intro xa xn xc w7 o7 jO;have P9:=aa (P8.out.to jO.out);go_wp2_with fail
    refine⟨⟨k2+1,by go_num,by omega,?_,P9.out.bel,P9.out.ex⟩,by simp[intOf];omega⟩;have:=o7.out;rw[jW.out];rw[<-sX.out]at this
    simpa using this
   have nj:(0:Int)<(k2:Int):=by omega
   have jW:Hid (aU (mk [44]) (I.take (k2+1))=aU (mk [44]) (I.take k2)++mk [44]::de (bl s)::mk [61]::M):=by show _=_;rw[cb.out,if_neg eM,zu.out]
   obtain⟨L,vR⟩:∃L,mk [123]::aU (mk [44]) (I.take k2)=L:=⟨_,rfl⟩
   have Mq:=aa vR;have Ir:Hid (L.length<=1000001):=by show _<=_;rw[<-vR];simp only[List.length_cons];have:=dP.out;omega
   rw[vR]at O0 ⊢;obtain⟨len,aL⟩:∃n,L.length=n:=⟨_,rfl⟩
   rw[aL]at O0 ⊢;clear vR cb dP zu eM aL EI aE ri;have c0:=P0.out.ex.cells;simp only[ep.out]at c0;go_wp2_with(go_at_call 88;refine ak.out ?_)
   refine ak.mk ((cH _ _).mono ?_);rintro e w1 ⟨rfl,ai⟩;have P1:=aa (P0.out.up ai);have M1:=aa (lD w1 (w.heap.size+1) 44 P1.out.sz);have O1:=aa ((O0.out.below ai).below (ab (o:=.cells #[.int .i64 4,.string ⟨#[44]⟩,.int .i64 0] 88) af));have P2:=aa (P1.out.al (ob:=.cells #[.int .i64 4,.string ⟨#[44]⟩,.int .i64 0] 88));clear ai O0 P0 P1 c0;go_wp2_with(at_builtin;refine ak.out ?_)
   refine ak.mk ?_;refine aZ rfl (.tmp 16) (.tmp 18) rfl (w.heap.size+1) (.slice ta len tc) L rfl O1.out (w.heap.size+1) (.slice (some ⟨w1.heap.size,0,none⟩) 1 1) [mk [44]] rfl M1.out (by have:=Ir.out;simp;omega) P2.out.sz ?_;intro ua un uc w2 o2 aq;have P3:=aa (P2.out.to aq.out);obtain⟨L0,vq⟩:∃K,L++[mk [44]]=K:=⟨_,rfl⟩
   have sX:=aa vq;have hL:Hid (L0.length<=1000100):=by show _<=_;rw[<-vq];have:=Ir.out;simp;omega
   rw[vq]at o2;clear aq P2 M1 O1 vq Ir;have cn:=P3.out.nc;have c0:=P3.out.ex.cells;simp only[ep.out]at c0;go_wp2_with(go_at_call 89;refine ak.out ?_)
   refine ak.mk ((hn.out _).mono ?_);rintro e w3 ⟨rfl,ar⟩;have P4:=aa (P3.out.up ar);have O4:=aa (o2.out.below ar);clear ar P3 o2 cn c0;unfold dO;go_wp2_with(go_at_call 88;refine ak.out ?_)
   refine ak.mk ((cH _ _).mono ?_);rintro e w4 ⟨rfl,aO⟩;have P5:=aa (P4.out.up aO);have M5:=aa (CC w4 (w.heap.size+1) (de (bl s)) 61 P5.out.sz);have O5:=aa ((O4.out.below aO).below (ab (o:=.cells #[.int .i64 (de (bl s)).w,.string (aj (de (bl s)).s),.int .i64 (de (bl s)).p,.int .i64 4,.string ⟨#[61]⟩,.int .i64 0] 88) af));have P6:=aa (P5.out.al (ob:=.cells #[.int .i64 (de (bl s)).w,.string (aj (de (bl s)).s),.int .i64 (de (bl s)).p,.int .i64 4,.string ⟨#[61]⟩,.int .i64 0] 88));clear aO P4 P5 O4;go_wp2_with(at_builtin;refine ak.out ?_)
   refine ak.mk ?_;refine aZ rfl (.tmp 20) (.tmp 28) rfl (w.heap.size+1) (.slice ua un uc) L0 rfl O5.out (w.heap.size+1) (.slice (some ⟨w4.heap.size,0,none⟩) 2 2) [de (bl s),mk [61]] rfl M5.out (by have:=hL.out;simp;omega) P6.out.sz ?_;intro va vn9 vc w5 o5 bg;have P7:=aa (P6.out.to bg.out);have c7:=P7.out.ex.cells;have r7:=bJ P7.out.yr;simp only[ep.out]at c7;simp only at r7;clear bg P6 M5 O5;go_wp2_with(go_at_call 43;refine ak.out ?_)
   refine ak.mk ((hcall.out _ P7.out.bel).mono ?_);rintro e w6 ⟨v6,rfl,Fb,da⟩;have P8:=aa (P7.out.up da);have O8:=aa (o5.out.below da);have O6:=aa Fb;clear da Fb P7 o5 c7 r7;go_wp2_with(at_builtin;refine ak.out ?_)
   refine ak.mk ?_;refine aZ rfl (.tmp 30) (.tmp 36) rfl (w.heap.size+1) (.slice va vn9 vc) (L0++[de (bl s),mk [61]]) rfl O8.out w5.heap.size v6 M rfl O6.out (by have h1:=hL.out;have h2:=oM.out;simp;omega) P8.out.sz ?_;intro xa xn xc w7 o7 jO;have P9:=aa (P8.out.to jO.out);go_wp2_with fail
   refine⟨⟨k2+1,by go_num,by omega,?_,P9.out.bel,P9.out.ex⟩,by simp[intOf];omega⟩;have:=o7.out;rw[jW.out];rw[<-sX.out]at this;rw[<-Mq.out]at this
   simpa using this
  have bF:¬((k2:Int)<(N:Int)):=by omega
  have ek:Hid (I.take k2=I):=List.take_of_length_le (by have:=eB.out;omega);rw[ek.out]at O0 ⊢;obtain⟨L,vR⟩:∃L,mk [123]::aU (mk [44]) I=L:=⟨_,rfl⟩
  have Mq:=aa vR;have Ir:Hid (L.length<=1000001):=by show _<=_;rw[<-vR];simp only[List.length_cons];have:=eR.out;omega
  rw[vR]at O0 ⊢;obtain⟨len,aL⟩:∃n,L.length=n:=⟨_,rfl⟩
  rw[aL]at O0 ⊢;have c0:=X0.out.cells;simp only[ep.out]at c0;clear vR dP aL;go_wp2_with(go_at_call 88;refine ak.out ?_)
  refine ak.mk ((cH _ _).mono ?_);rintro e w1 ⟨rfl,ai⟩;have B1:=aa (ac B0.out ai);have s1:w.heap.size+1<=w1.heap.size:=Nat.le_trans X0.out.lt ai.size;have M1:=aa (lD w1 (w.heap.size+1) 125 s1);have O1:=aa ((O0.out.below ai).below (ab (o:=.cells #[.int .i64 4,.string ⟨#[125]⟩,.int .i64 0] 88) af));have B2:=aa (B1.out.alloc B1.out.size (.cells #[.int .i64 4,.string ⟨#[125]⟩,.int .i64 0] 88));clear ai O0 B0 c0;go_wp2_with(at_builtin;refine ak.out ?_)
  refine ak.mk ?_;refine aZ rfl (.tmp 38) (.tmp 40) rfl (w.heap.size+1) (.slice ta len tc) L rfl O1.out (w.heap.size+1) (.slice (some ⟨w1.heap.size,0,none⟩) 1 1) [mk [125]] rfl M1.out (by have:=Ir.out;simp;omega) (by simp only[World.size_alloc];omega) ?_;intro ua un uc w2 o2 aq;have B3:=aa (B2.out.trans (aq.out.mono (by omega)));go_wp2_with fail
  go_ret;refine⟨_,rfl,?_,B3.out⟩;have:=o2.out.low (C:=w.heap.size) (by omega);rw[<-Mq.out]at this
  simpa [fM] using this
end Lx
