import Derived.Test.YtcnfchblfcfimaaGreatDoorZh40
import Derived.Test.YtcnfchblfcfimaaGreatDoorZh41
set_option linter.all false
set_option maxHeartbeats 4000000
set_option maxRecDepth 100000
namespace Go.Proofs.YtcnfchblfcfimaaGreatDoor
open Proofs.Tryz RowKit
namespace Lx
variable {dq : {_f : (p : Prop) → Decidable p // True}}
theorem rE(hP:aW)(n:Nat)(ih:yd n):yd (n+1):=by
 intro x q w hr hp hz g;obtain⟨⟨k,nms⟩,l⟩:=x;obtain⟨p1,p2,p3,p4,p6,p8,p9⟩:=hp;simp only at p1 p2 p3 p4 p6 p8 p9;show Calls _ _ #[.agg (cE ⟨k,nms⟩ q)] _ _;have hk:k=1\/k=2\/k=3\/k=4\/k=5\/k=6\/k=7\/k=8\/k=9\/k=10\/k=11:=by omega
 rcases hk with rfl|rfl|rfl|rfl|rfl|rfl|rfl|rfl|rfl|rfl|rfl
 ·have e:eh (n+1) (⟨1,nms⟩,l)=[wd [97,110,121]]:=by simp[eh,FY]
  rw[e];exact Ad hr g
 ·have e:eh (n+1) (⟨2,nms⟩,l)=[wd [110,117,108,108]]:=by simp[eh,FY]
  rw[e];exact Ac hr g
 ·have e:eh (n+1) (⟨3,nms⟩,l)=[wd [98,111,111,108]]:=by simp[eh,FY]
  rw[e];exact Ab hr g
 ·have e:eh (n+1) (⟨4,nms⟩,l)=[wd [110,117,109]]:=by simp[eh,FY]
  rw[e];exact Aa hr g
 ·have e:eh (n+1) (⟨5,nms⟩,l)=[wd [105,110,116]]:=by simp[eh,FY]
  rw[e];exact zZ hr g
 ·have e:eh (n+1) (⟨6,nms⟩,l)=[wd [102,108,111,97,116]]:=by simp[eh,FY]
  rw[e];exact zY hr g
 ·have e:eh (n+1) (⟨7,nms⟩,l)=[wd [116,101,120,116]]:=by simp[eh,FY]
  rw[e];exact zX hr g
 ·have e:eh (n+1) (⟨8,nms⟩,l)=[wd [98,121,116,101,115]]:=by simp[eh,FY]
  rw[e];exact zW hr g
 ·have e:eh (n+1) (⟨9,nms⟩,l)=wd [108,105,115,116]::fM [40] ((l.map (eh n)).headD []) [41]:=by simp[eh]
  rw[e]at hz ⊢;exact zV ih hr (p3 rfl) p9 (by simp only[List.length_cons]at hz;omega) g
 ·have e:eh (n+1) (⟨10,nms⟩,l)=wd [114,101,99,111,114,100]::io [58] nms (l.map (eh n)):=by simp[eh]
  rw[e]at hz ⊢;exact wj hP ih hr (p4 (Or.inl rfl)) p6 p9 p8 (by simp only[List.length_cons]at hz;omega) g
 have e:eh (n+1) (⟨11,nms⟩,l)=wd [117,110,105,111,110]::io [58] nms (l.map (eh n)):=by simp[eh]
 rw[e]at hz ⊢;exact wi hP ih hr (p4 (Or.inr rfl)) p6 p9 p8 (by simp only[List.length_cons]at hz;omega) g
theorem pp(hP:aW):∀n,yd n
 |0=>fun x=>Empty.elim x
 |n+1=>rE hP n (pp hP n)
theorem rK{n:Nat}{x:TT n}(h:qV dq n x=0):BL n x/\ye n x:=by
 unfold qV at h
 split at h
 ·cases h
 rename_i a
 split at h
 ·rename_i b
  exact⟨Classical.not_not.1 a,b⟩
 cases h
theorem zc:∀ {n:Nat} {x:TT n},BL n x->qT n x->cW n x<=100000->Nb n x
 |0,x,_,_,_=>Empty.elim x
 |n+1,x,h,hs,hz=>by
  have hl:x.2.length<=100000:=by have:x.2.length<=aA (x.2.map (cW n)):=iP (cW n) (CB n) x.2;simp only[cW]at hz;omega
  obtain⟨f,hk⟩:=h;have f':=f;unfold nz at f';refine⟨?_,?_,?_,?_,fun s eK=>by have:=hs.2.1 s eK;omega,hl,fun y hy=>?_⟩
  ·omega
  ·omega
  ·intro h9;omega
  ·intro h9;omega
  obtain⟨i,hi,rfl⟩:=List.mem_iff_getElem.1 hy;exact zc (hk _ hy) (hs.2.2 _ hy) (by have:=pr hi;omega)
theorem oS:∀(n:Nat) (x:TT n),(eh n x).length+3<=8*cW n x
 |0,x=>Empty.elim x
 |n+1,x=>by
  obtain⟨⟨k,nms⟩,l⟩:=x;have ih:=pv (fun y=>(eh n y).length) (cW n) l fun y _=>oS n y;have hm:aA ((l.map (eh n)).map List.length)=aA (l.map fun y=>(eh n y).length):=by rw[List.map_map];rfl
  have hn:∀m,(io m nms (l.map (eh n))).length<=2+aA (l.map fun y=>(eh n y).length)+2*l.length+(l.length-1):=fun m=>by have h1:=oV (mk [44]) (mY m nms (l.map (eh n)));obtain⟨h2,h3⟩:=sC m nms (l.map (eh n));rw[List.length_map]at h2 h3;rw[hm]at h2;simp only[io,fM,List.length_cons,List.length_append,List.length_nil];omega
  show _<=8*(1+aA (l.map (cW n)))
  simp only[eh]
  split
  ·cases l with
   |nil=>simp[fM];omega
   |cons y l=>
    simp only[List.map_cons,aA,List.length_cons]at ih;simp only[fM,List.map_cons,List.headD_cons,List.length_cons,List.length_append,List.length_nil,aA];omega
  split
  ·have:=hn [58];simp only[List.length_cons];omega
  split
  ·have:=hn [58];simp only[List.length_cons];omega
  simp;omega
theorem Je:∀(n:Nat) (x:TT n),qT n x->∀t∈eh n x,t.s.length<=4096
 |0,x,_=>Empty.elim x
 |n+1,x,h=>by
  have ih:∀y∈x.2,∀t∈eh n y,t.s.length<=4096:=fun y hy=>Je n y (h.2.2 y hy);have ihk:∀k∈x.2.map (eh n),∀t∈k,t.s.length<=4096:=fun k hk t ht=>by obtain⟨y,hy,rfl⟩:=List.mem_map.1 hk;exact ih y hy t ht
  intro t ht;simp only[eh]at ht
  split at ht
  ·rcases List.mem_cons.1 ht with rfl|ht
   ·simp[wd]
   rcases pf ht with rfl|ht|rfl
   ·simp[mk]
   ·cases hx:x.2 with
    |nil=>rw[hx]at ht;simp at ht
    |cons y l=>
     rw[hx]at ht;simp only[List.map_cons,List.headD_cons]at ht;exact ih y (by rw[hx];simp) t ht
   simp[mk]
  split at ht
  ·rcases List.mem_cons.1 ht with rfl|ht
   ·simp[wd]
   exact yO (by simp) h.2.1 ihk t ht
  split at ht
  ·rcases List.mem_cons.1 ht with rfl|ht
   ·simp[wd]
   exact yO (by simp) h.2.1 ihk t ht
  rw[List.mem_singleton.1 ht];simp only[wd,FY]
  repeat' split
  all_goals simp
def Nf(dq:{_f:(p:Prop)->Decidable p // True})(n:Nat)(x:TT n):Int×List UInt8:=if qV dq n x=0 then ((((kS (eh n x)).1:Nat):Int),(kS (eh n x)).2) else (qV dq n x,[])
theorem wK(hP:aW)(n:Nat)(x:TT n)(q:S2)(w:World)(hr:lN n w x q)(hs:GT n x)(hz:cW n x<=200000)(g:Gs w)(gt:Gt w):Calls prog 22 #[.agg (cE (gz n x) q)] w fun e w'=>e=.returned (.tuple #[.string (aj (Nf dq n x).2),.int .i64 (Nf dq n x).1])/\Below w.heap.size w w':=by
 obtain⟨x1,y1,z1,x2,y2,z2,aK⟩:=lN.shape hr;subst aK;have hc:=aa (fun o=>qW (dq:=dq) n x ⟨.slice x1 y1 z1,.slice x2 y2 z2⟩ (w.alloc o) (lN.below hr (ab af)) hs hz (g.below (ab af)).gg.gu (gt.below (ab af)));have cC:qV dq n x=0->cW n x<=4096:=fun h=>(rK h).2.2.2;have hm:=aa (fun(h:qV dq n x=0) W (hb:Below w.heap.size w W)=>pp hP n x ⟨.slice x1 y1 z1,.slice x2 y2 z2⟩ W (lN.below hr hb) (zc (rK h).1 (rK h).2.1 (by have:=cC h;omega)) (by have:=oS n x;have:=cC h;omega) (g.below hb));have hp:=aa (fun(h:qV dq n x=0) W (hb:Below w.heap.size w W) B v (k:OT W B v (eh n x))=>lV hP v (eh n x) W (k.ts (by have:=oS n x;have:=cC h;omega)) (g.below hb).gg (fun t ht=>by have:=Je n x (rK h).2.1 t ht;omega) (by have:=oS n x;have:=cC h;omega));have X0:=aa (eu w (gz n x) ⟨.slice x1 y1 z1,.slice x2 y2 z2⟩);have hx:Hid (Nf dq n x=if qV dq n x=0 then ((((kS (eh n x)).1:Nat):Int),(kS (eh n x)).2) else (qV dq n x,[])):=rfl;obtain⟨R,hR⟩:∃R,Nf dq n x=R:=⟨_,rfl⟩
 rw[hR]at hx ⊢;clear hP hr hs hz g hR cC gt;obtain⟨c,Ba⟩:∃c,qV dq n x=c:=⟨_,rfl⟩
 obtain⟨T,hT⟩:∃T,eh n x=T:=⟨_,rfl⟩
 obtain⟨h,hh⟩:∃h,gz n x=h:=⟨_,rfl⟩
 rw[Ba]at hc hm hp hx;rw[hT]at hm hp hx;rw[hh]at hc hm X0 ⊢;clear Ba hT hh;unfold bE at hm;unfold cE fR at hc hm X0 ⊢
 dsimp only at hc hm X0 ⊢
 go_enter func22,ntmps22;go_wp2_with(go_at_call 52;refine ak.out ?_)
 refine ak.mk ?_;refine(hc.out _).mono ?_;rintro e w1 ⟨rfl,ai⟩;have B1:=aa (ac (ab af) ai);have X1:=aa (X0.out.below ai);have x0:=X1.out.cells;clear ai hc X0;by_cases h0:c=0
 ·have pd:=aa (hm.out h0 w1 B1.out)
  have AR:=aa (hp.out h0);have e1:Hid (R=((((kS T).1:Nat):Int),(kS T).2)):=by show _=_;rw[hx.out,if_pos h0]
  subst h0;clear hm hp hx;go_wp2_with(go_at_call 55;refine ak.out ?_)
  refine ak.mk ?_;refine pd.out.mono ?_;rintro e w2 ⟨v,rfl,hO,aq⟩;have B2:=aa (ac B1.out aq);have qI:=aa (AR.out w2 B2.out _ v hO);clear hO aq pd AR x0;unfold Ng at qI;go_wp2_with(go_at_call 34;refine ak.out ?_)
  refine ak.mk ?_;refine qI.out.mono ?_;rintro e w3 ⟨rfl,ar⟩;have B3:=aa (ac B2.out ar);go_wp2_with fail
  go_ret2;exact⟨by rw[e1.out];rfl,B3.out⟩
 have b0:(c==0)=false:=by simp[h0]
 have e1:Hid (R=(c,[])):=by show _=_;rw[hx.out,if_neg h0]
 clear h0 hx;go_wp2_with fail
 go_ret2;exact⟨by rw[e1.out];rfl,B1.out⟩
variable {dq : {_f : (p : Prop) → Decidable p // True}}
theorem DX{n:Nat}{x:ET n}(a:fd jc n x)(b:fd rr n x)(c:fd wv n x)(d:dN n x<=16)(e:aM n x<=512):mX dq n x=0:=by unfold mX;rw[if_neg (fun h=>h ⟨a,b⟩),if_pos ⟨c,d,e⟩]
theorem CF{n:Nat}{x:TT n}(a:BL n x)(b:ye n x):qV dq n x=0:=by unfold qV;rw[if_neg (fun h=>h a),if_pos b]
theorem mx:yc 1 fQ:=⟨⟨by decide,by decide,fun s hs=>absurd hs (by simp[fQ,vH]),fun y hy=>absurd hy (by simp[fQ,vH])⟩,by decide,by decide⟩
theorem rM(nm:ByteArray):iL 2 ((lJ 9 nm [],List.replicate 1 fQ):VT 2)↔Go.Proofs.YtcnfchblfcfimaaGreatDoor.okT nm=true:=by
 constructor
 ·intro h
  exact(h.2.1.2.2.2 rfl).1
 intro h;refine⟨⟨by simp[lJ],by simp[lJ],rfl,Or.inl (by simp[lJ])⟩,⟨fun k=>absurd k (by simp[lJ]),fun k=>absurd k (by simp[lJ]),fun k=>absurd k (by simp[lJ]),fun _=>⟨h,rfl⟩⟩,fun y hy=>?_⟩;rw[List.eq_of_mem_replicate hy];exact dZ
theorem yt(nm:ByteArray):yc 2 ((lJ 9 nm [],List.replicate 1 fQ):VT 2)↔nm.size<=64:=by
 constructor
 ·intro h
  have:=h.1.1;simp[lJ]at this;omega
 intro h;refine⟨⟨by simp[lJ];omega,by simp,fun s hs=>absurd hs (by simp[lJ]),fun y hy=>?_⟩,?_,?_⟩
 ·rw[List.eq_of_mem_replicate hy]
  exact mx.1
 ·show 1+jl ((List.replicate 1 fQ).map (rx 1))<=16
  decide
 rw[nH];omega
structure FQ(n:Nat)(x:ET (n+1)):Prop where
 bare:dH x.1 x.2
 fi:rr (n+1) x
 sh:wv (n+1) x
theorem fK{n:Nat}(op:Int)(l:List (ET n))(h:op=1\/op=8\/op=9\/op=10\/op=11):FQ n ((lf op,[]):ET (n+1)):=by
 have e:cX (lf op) 0=⟨1,fQ⟩:=by rcases h with rfl|rfl|rfl|rfl|rfl<;>rfl
 refine⟨⟨by rcases h with rfl|rfl|rfl|rfl|rfl<;>exact⟨by simp[lf],by simp[lf]⟩,Or.inr (Or.inr rfl),Or.inr (Or.inr rfl),Or.inr (Or.inr (Or.inr (Or.inr rfl))),Or.inr rfl⟩,⟨?_,?_,?_,?_⟩,?_,?_⟩
 ·intro k;rcases h with rfl|rfl|rfl|rfl|rfl<;>exact absurd k (by simp[ehd,lf])
 ·intro k;rcases h with rfl|rfl|rfl|rfl|rfl<;>exact absurd k (by simp[ehd,lf])
 ·intro k;rcases h with rfl|rfl|rfl|rfl|rfl<;>exact absurd k (by simp[ehd,lf])
 ·show iL _ (cX (lf op) 0).2
  rw[e];exact dZ
 ·show iL _ (cX (lf op) 0).2
  rw[e];exact dZ
 show yc _ (cX (lf op) 0).2;rw[e];exact mx
theorem qd{n:Nat}(y:ET n):FQ n ((lf 4,[y]):ET (n+1)):=by
 have e:cX (lf 4) 1=⟨1,fQ⟩:=rfl;refine⟨⟨⟨by simp[lf],by simp[lf]⟩,Or.inr (Or.inr rfl),Or.inr (Or.inr rfl),Or.inr (Or.inl rfl),Or.inr rfl⟩,⟨fun _=>rfl,fun k=>absurd k (by simp[ehd,lf]),fun k=>absurd k (by simp[ehd,lf]),?_⟩,?_,?_⟩
 ·show iL _ (cX (lf 4) 1).2
  rw[e];exact dZ
 ·show iL _ (cX (lf 4) 1).2
  rw[e];exact dZ
 show yc _ (cX (lf 4) 1).2;rw[e];exact mx
theorem nV{n:Nat}(l:List (ET n))(h2:2<=l.length):FQ n ((lf 12,l):ET (n+1)):=by
 have e:cX (lf 12) l.length=⟨1,fQ⟩:=rfl;refine⟨⟨⟨by simp[lf],by simp[lf]⟩,Or.inr (Or.inr rfl),Or.inr (Or.inr rfl),Or.inr (Or.inr (Or.inr (Or.inl rfl))),Or.inr rfl⟩,⟨fun k=>absurd k (by simp[ehd,lf]),fun _=>h2,fun k=>absurd k (by simp[ehd,lf]),?_⟩,?_,?_⟩
 ·show iL _ (cX (lf 12) l.length).2
  rw[e];exact dZ
 ·show iL _ (cX (lf 12) l.length).2
  rw[e];exact dZ
 show yc _ (cX (lf 12) l.length).2;rw[e];exact mx
def TN(op:Int)(nm:ByteArray)(n:Nat):ET (n+1):=(⟨op,nm,[],1,vz⟩,[])
theorem Fk{n:Nat}(op:Int)(nm:ByteArray)(h:op=2\/op=5)(h1:Go.Proofs.YtcnfchblfcfimaaGreatDoor.okT nm=true)(h2:nm.size<=64):FQ n ((⟨op,nm,[],1,vz⟩,[]):ET (n+1)):=by
 have e:cX ⟨op,nm,[],1,vz⟩ 0=⟨2,(lJ 9 nm [],List.replicate 1 fQ)⟩:=by rcases h with rfl|rfl<;>rfl
 refine⟨⟨by rcases h with rfl|rfl<;>exact⟨by simp,by simp⟩,by rcases h with rfl|rfl;exact Or.inl rfl;exact Or.inr (Or.inl rfl),Or.inr (Or.inr rfl),Or.inr (Or.inr (Or.inr (Or.inr rfl))),Or.inr rfl⟩,⟨?_,?_,?_,?_⟩,?_,?_⟩
 ·intro k;rcases h with rfl|rfl<;>exact absurd k (by simp[ehd])
 ·intro k;rcases h with rfl|rfl<;>exact absurd k (by simp[ehd])
 ·intro k;rcases h with rfl|rfl<;>exact absurd k (by simp[ehd])
 ·show iL _ (cX ⟨op,nm,[],1,vz⟩ 0).2
  rw[e];exact(rM nm).2 h1
 ·show iL _ (cX ⟨op,nm,[],1,vz⟩ 0).2
  rw[e];exact(rM nm).2 h1
 show yc _ (cX ⟨op,nm,[],1,vz⟩ 0).2;rw[e];exact(yt nm).2 h2
theorem tr{P:(n:Nat)->ET n->Prop}{n:Nat}{h:Eh}(k:P (n+1) (h,[])):fd P (n+1) ((h,[]):ET (n+1)):=⟨k,fun i hi=>absurd hi (by simp)⟩
theorem Fm{P:(n:Nat)->ET n->Prop}{n:Nat}{x:ET (n+1)}(k:P (n+1) x)(h:∀y∈x.2,fd P n y):fd P (n+1) x:=⟨k,fun i hi=>h _ (List.getElem_mem hi)⟩
def zF(g:Nat):ET (dp (g+20)+1):=(lf 12,[TN 2 (aj [97]) _,(lf 4,[(lf 9,[])]),(lf 10,[])])
def NQ:ByteArray:=⟨#[46,97,59,32,91,116,111,110,117,109,93,59,32,115,117,109]⟩
def NO:ByteArray:=⟨#[123,97,61,105,100,44,97,61,105,100,125]⟩
def NN:ByteArray:=⟨#[105,100,59]⟩
def NK:ByteArray:=⟨#[114,101,99,111,114,100,123,105,100,58,105,110,116,44,116,97,103,115,58,108,105,115,116,40,116,101,120,116,41,125]⟩
theorem Vb:jd (bl NQ)=(0,0,[⟨4,[46],0⟩,⟨1,[97],1⟩,⟨4,[59],2⟩,⟨4,[91],4⟩,⟨1,[116,111,110,117,109],5⟩,⟨4,[93],10⟩,⟨4,[59],11⟩,⟨1,[115,117,109],13⟩]):=by kernel_rfl
theorem Va:jd (bl NO)=(0,0,[⟨4,[123],0⟩,⟨1,[97],1⟩,⟨4,[61],2⟩,⟨1,[105,100],3⟩,⟨4,[44],5⟩,⟨1,[97],6⟩,⟨4,[61],7⟩,⟨1,[105,100],8⟩,⟨4,[125],10⟩]):=by kernel_rfl
theorem UZ:jd (bl NN)=(0,0,[⟨1,[105,100],0⟩,⟨4,[59],2⟩]):=by kernel_rfl
theorem UY:jd (bl NK)=(0,0,[⟨1,[114,101,99,111,114,100],0⟩,⟨4,[123],6⟩,⟨1,[105,100],7⟩,⟨4,[58],9⟩,⟨1,[105,110,116],10⟩,⟨4,[44],13⟩,⟨1,[116,97,103,115],14⟩,⟨4,[58],18⟩,⟨1,[108,105,115,116],19⟩,⟨4,[40],23⟩,⟨1,[116,101,120,116],24⟩,⟨4,[41],28⟩,⟨4,[125],29⟩]):=by kernel_rfl
theorem Vg(g:Nat):qq (g+20) (bl NQ)=.inr (zF g):=by unfold qq;rw[Vb];kernel_rfl
theorem Vf(g:Nat):qq (g+20) (bl NO)=.inl (140,6):=by unfold qq;rw[Va];kernel_rfl
theorem Ve(g:Nat):qq (g+20) (bl NN)=.inl (140,3):=by unfold qq;rw[UZ];kernel_rfl
def Cj(g:Nat):TT (g+20):=(⟨10,[aj [105,100],aj [116,97,103,115]]⟩,[(⟨5,[]⟩,[]),(⟨9,[]⟩,[(⟨7,[]⟩,[])])])
theorem Vd(g:Nat):jG (g+20) (bl NK)=.inr (Cj g):=by unfold jG;rw[UY];kernel_rfl
variable {dq : {_f : (p : Prop) → Decidable p // True}}
theorem RL{α:Type}{a b y:α}(h:y∈[a,b]):y=a\/y=b:=by simpa using h
theorem RK{α:Type}{a b c y:α}(h:y∈[a,b,c]):y=a\/y=b\/y=c:=by simpa using h
theorem TP{P:(n:Nat)->ET n->Prop}(g:Nat)(h0:P _ (zF g))(h1:∀n,P (n+1) ((⟨2,aj [97],[],1,vz⟩,[]):ET (n+1)))(h2:∀n (y:ET n),P (n+1) ((lf 4,[y]):ET (n+1)))(h3:∀n,P (n+1) ((lf 9,[]):ET (n+1)))(h4:∀n,P (n+1) ((lf 10,[]):ET (n+1))):fd P _ (zF g):=by
 refine Fm h0 fun y hy=>?_;have Vq:y=TN 2 (aj [97]) _\/y=((lf 4,[(lf 9,[])]):ET (dp (g+20)))\/y=((lf 10,[]):ET (dp (g+20))):=by exact RK (show y∈[TN 2 (aj [97]) (dp (g+19)+1),((lf 4,[(lf 9,[])]):ET (dp (g+20))),((lf 10,[]):ET (dp (g+20)))]from hy)
 rcases Vq with rfl|rfl|rfl
 ·exact tr (h1 _)
 ·refine Fm (h2 _ _) fun z hz=>?_
  rw[show z=((lf 9,[]):ET (dp (g+19)+1))from List.mem_singleton.1 hz];exact tr (h3 _)
 exact tr (h4 _)
theorem xO(n:Nat):FQ n ((⟨2,aj [97],[],1,vz⟩,[]):ET (n+1)):=Fk 2 (aj [97]) (Or.inl rfl) (by kernel_rfl) (by decide)
theorem OL(g:Nat):mX dq _ (zF g)=0:=by
 refine DX (TP g ?_ ?_ ?_ ?_ ?_) (TP g ?_ ?_ ?_ ?_ ?_) (TP g ?_ ?_ ?_ ?_ ?_) ?_ ?_
 ·exact(nV _ (by show 2<=3;omega)).bare
 ·exact fun n=>(xO n).bare
 ·exact fun n y=>(qd y).bare
 ·exact fun n=>(fK (n:=n) 9 [] (by simp)).bare
 ·exact fun n=>(fK (n:=n) 10 [] (by simp)).bare
 ·exact(nV _ (by show 2<=3;omega)).fi
 ·exact fun n=>(xO n).fi
 ·exact fun n y=>(qd y).fi
 ·exact fun n=>(fK (n:=n) 9 [] (by simp)).fi
 ·exact fun n=>(fK (n:=n) 10 [] (by simp)).fi
 ·exact(nV _ (by show 2<=3;omega)).sh
 ·exact fun n=>(xO n).sh
 ·exact fun n y=>(qd y).sh
 ·exact fun n=>(fK (n:=n) 9 [] (by simp)).sh
 ·exact fun n=>(fK (n:=n) 10 [] (by simp)).sh
 ·rw[show dN _ (zF g)=3 by kernel_rfl];omega
 rw[show aM _ (zF g)=5 by kernel_rfl];omega
theorem RF(g:Nat):BQ dq (g+20) (bl NQ)=.inr (zF g):=by unfold BQ;rw[Vg];show(if mX dq _ (zF g)=0 then _ else _)=_;rw[if_pos (OL g)]
theorem Vl(g:Nat):BQ dq (g+20) (bl NO)=.inl (140,6):=by unfold BQ;rw[Vf];rfl
theorem Vk(g:Nat):BQ dq (g+20) (bl NN)=.inl (140,3):=by unfold BQ;rw[Ve];rfl
def Rv:List UInt8:=[46,32,97,32,59,32,91,32,116,111,110,117,109,32,93,32,59,32,115,117,109]
theorem RJ(g:Nat):bp _ (zF g)=[mk [46],de [97],mk [59],mk [91],wd [116,111,110,117,109],mk [93],mk [59],wd [115,117,109]]:=by kernel_rfl
theorem Oz:de [97]=wd [97]:=by kernel_rfl
theorem Rz:kS [mk [46],wd [97],mk [59],mk [91],wd [116,111,110,117,109],mk [93],mk [59],wd [115,117,109]]=(0,Rv):=by kernel_rfl
theorem Vj(g:Nat):BP dq _ (zF g)=(0,Rv):=by unfold BP;rw[if_pos (OL g),RJ,Oz,Rz];rfl
theorem RH:oB [aj [105,100],aj [116,97,103,115]]:=by
 refine⟨fun s hs=>?_,?_⟩
 ·simp only[List.mem_cons,List.not_mem_nil,or_false]at hs
  rcases hs with rfl|rfl<;>kernel_rfl
 refine List.nodup_cons.2 ⟨?_,List.nodup_cons.2 ⟨by simp,List.nodup_nil⟩⟩;intro h;have:=co (List.mem_singleton.1 h);exact absurd this (by decide)
theorem NR(g:Nat):qV dq _ (Cj g)=0:=by
 have mem:∀y∈(Cj g).2,y=((⟨5,[]⟩,[]):TT (g+19))\/y=((⟨9,[]⟩,[(⟨7,[]⟩,[])]):TT (g+19)):=fun y hy=>by exact RL (show y∈[((⟨5,[]⟩,[]):TT (g+19)),((⟨9,[]⟩,[(⟨7,[]⟩,[])]):TT (g+19))]from hy)
 refine CF ⟨Or.inr (Or.inl ⟨Or.inl rfl,rfl,RH⟩),fun y hy=>?_⟩ ⟨⟨by show 2<=256;omega,fun s hs=>?_,fun y hy=>?_⟩,?_,?_⟩
 ·rcases mem y hy with rfl|rfl
  ·exact⟨Or.inr (Or.inr ⟨by show(1:Int)<=5;omega,by show(5:Int)<=8;omega,rfl,rfl⟩),fun z hz=>absurd hz (by simp)⟩
  refine⟨Or.inl ⟨rfl,rfl,rfl⟩,fun z hz=>?_⟩;rw[show z=((⟨7,[]⟩,[]):TT (g+18))from List.mem_singleton.1 hz];exact⟨Or.inr (Or.inr ⟨by show(1:Int)<=7;omega,by show(7:Int)<=8;omega,rfl,rfl⟩),fun z hz=>absurd hz (by simp)⟩
 ·have:s∈[aj [105,100],aj [116,97,103,115]]:=hs
  simp only[List.mem_cons,List.not_mem_nil,or_false]at this;rcases this with rfl|rfl<;>decide
 ·rcases mem y hy with rfl|rfl
  ·exact⟨by simp,fun s hs=>absurd hs (by simp),fun z hz=>absurd hz (by simp)⟩
  refine⟨by simp,fun s hs=>absurd hs (by simp),fun z hz=>?_⟩;rw[show z=((⟨7,[]⟩,[]):TT (g+18))from List.mem_singleton.1 hz];exact⟨by simp,fun s hs=>absurd hs (by simp),fun z hz=>absurd hz (by simp)⟩
 ·rw[show ka _ (Cj g)=3 by kernel_rfl];omega
 rw[show cW _ (Cj g)=4 by kernel_rfl];omega
theorem RA(g:Nat):KG dq (g+20) (bl NK)=.inr (Cj g):=by unfold KG;rw[Vd];show(if qV dq _ (Cj g)=0 then _ else _)=_;rw[if_pos (NR g)]
def Ru:List UInt8:=[114,101,99,111,114,100,32,123,32,105,100,32,58,32,105,110,116,32,44,32,116,97,103,115,32,58,32,108,105,115,116,32,40,32,116,101,120,116,32,41,32,125]
theorem Rs(g:Nat):eh _ (Cj g)=[wd [114,101,99,111,114,100],mk [123],de [105,100],mk [58],wd [105,110,116],mk [44],de [116,97,103,115],mk [58],wd [108,105,115,116],mk [40],wd [116,101,120,116],mk [41],mk [125]]:=by kernel_rfl
theorem Oy:de [105,100]=wd [105,100]:=by kernel_rfl
theorem Ox:de [116,97,103,115]=wd [116,97,103,115]:=by kernel_rfl
theorem Ry:kS [wd [114,101,99,111,114,100],mk [123],wd [105,100],mk [58],wd [105,110,116],mk [44],wd [116,97,103,115],mk [58],wd [108,105,115,116],mk [40],wd [116,101,120,116],mk [41],mk [125]]=(0,Ru):=by kernel_rfl
theorem Vi(g:Nat):Nf dq _ (Cj g)=(0,Ru):=by unfold Nf;rw[if_pos (NR g),Rs,Oy,Ox,Ry];rfl
variable {dq : {_f : (p : Prop) → Decidable p // True}}
structure Gw(w:World):Prop where
 gs:Gs w
 gt:Gt w
theorem Gw.below{w W:World}(g:Gw w)(hb:Below w.heap.size w W):Gw W:=⟨g.gs.below hb,g.gt.below hb⟩
theorem Oh{f:Nat}{l:List UInt8}{x:ET (dp f+1)}(h:BQ dq f l=.inr x):qq f l=.inr x/\mX dq _ x=0:=by
 unfold BQ at h;cases hr:qq f l with
 |inl y=>rw[hr]at h;cases h
 |inr z=>
  rw[hr]at h;simp only[Do]at h
  split at h
  ·rename_i k
   cases h;exact⟨rfl,k⟩
  cases h
theorem uI{f:Nat}{l:List UInt8}{x:ET (dp f+1)}(h:BQ dq f l=.inr x):GE _ x/\aM _ x<=2000:=pH (Oh h).1
theorem Ol{f:Nat}{l:List UInt8}{x:TT f}(h:KG dq f l=.inr x):jG f l=.inr x/\qV dq _ x=0:=by
 unfold KG at h;cases hr:jG f l with
 |inl y=>rw[hr]at h;cases h
 |inr z=>
  rw[hr]at h;simp only[Dn]at h
  split at h
  ·rename_i k
   cases h;exact⟨rfl,k⟩
  cases h
theorem uC{f:Nat}{l:List UInt8}{x:TT f}(h:KG dq f l=.inr x):GT _ x/\cW _ x<=2000:=nB (Ol h).1
theorem Ds(hP:aW){f:Nat}(hf:1025<=f){s:ByteArray}{w:World}(g:Gw w)(hz:s.size<=1000000){x:ET (dp f+1)}(h:BQ dq f (bl s)=.inr x):Calls prog 9 #[.string s] w fun e w'=>∃q,e=.returned (.tuple #[.agg (ecl (ehd _ x) q),.int .i64 0,.int .i64 0])/\RE _ w' x q/\Below w.heap.size w w':=by refine(uG (dq:=dq) hP f hf s w g.gs.gg g.gs.gp hz).mono ?_;rintro e w' ⟨hb,hr⟩;rw[h]at hr;obtain⟨q,rfl,hk⟩:=hr;exact⟨q,rfl,hk.rd,hb⟩
theorem uF(hP:aW){f:Nat}(hf:1025<=f){s:ByteArray}{w:World}(g:Gw w)(hz:s.size<=1000000){y:Int×Int}(h:BQ dq f (bl s)=.inl y):Calls prog 9 #[.string s] w fun e w'=>e=.returned (.tuple #[.agg (ecl ze zs),.int .i64 y.1,.int .i64 y.2])/\Below w.heap.size w w':=by refine(uG (dq:=dq) hP f hf s w g.gs.gg g.gs.gp hz).mono ?_;rintro e w' ⟨hb,hr⟩;rw[h]at hr;exact⟨hr,hb⟩
theorem Dl(hP:aW){f:Nat}(hf:1025<=f){s:ByteArray}{w:World}(g:Gw w)(hz:s.size<=1000000){x:TT f}(h:KG dq f (bl s)=.inr x):Calls prog 20 #[.string s] w fun e w'=>∃q,e=.returned (.tuple #[.agg (cE (gz _ x) q),.int .i64 0,.int .i64 0])/\lN _ w' x q/\Below w.heap.size w w':=by refine(Dm (dq:=dq) hP f hf s w g.gs.gg g.gs.gp g.gt hz).mono ?_;rintro e w' ⟨hb,hr⟩;rw[h]at hr;obtain⟨q,rfl,hk⟩:=hr;exact⟨q,rfl,hk.rd,hb⟩
theorem BG(hP:aW)(gk:Nat)(hg:1005<=gk)(w:World)(g:Gw w):Calls prog 11 #[] w fun e w'=>e=.returned (.bool true)/\Below w.heap.size w w':=by
 have dq:{_f:(p:Prop)->Decidable p // True}:=⟨fun p=>Classical.propDecidable p,trivial⟩
 have hf:1025<=gk+20:=by omega
 have G:=aa g;have p1:=aa (fun W (hb:Below w.heap.size w W)=>Ds hP hf (g.below hb) (s:=NQ) (by decide) (RF (dq:=dq) gk));have p2:=aa (fun W (hb:Below w.heap.size w W)=>uF hP hf (g.below hb) (s:=NO) (by decide) (Vl (dq:=dq) gk));have p3:=aa (fun W (hb:Below w.heap.size w W)=>uF hP hf (g.below hb) (s:=NN) (by decide) (Vk (dq:=dq) gk));have p4:=aa (fun W (hb:Below w.heap.size w W)=>Dl hP hf (g.below hb) (s:=NK) (by decide) (RA (dq:=dq) gk));have q1:=aa (fun q W (hb:Below w.heap.size w W) (h:RE _ W (zF gk) q)=>uD (dq:=dq) hP _ (zF gk) q W h (uI (RF (dq:=dq) gk)).1 (by have:=(uI (RF (dq:=dq) gk)).2;omega) (g.below hb).gs);have q4:=aa (fun q W (hb:Below w.heap.size w W) (h:lN _ W (Cj gk) q)=>wK (dq:=dq) hP _ (Cj gk) q W h (uC (RA (dq:=dq) gk)).1 (by have:=(uC (RA (dq:=dq) gk)).2;omega) (g.below hb).gs (g.below hb).gt);rw[Vj]at q1;rw[Vi]at q4;have Ig:Hid (∀W q,RE _ W (zF gk) q->∃a c,q.ls=.slice a 3 c):=fun W q h=>by obtain⟨a,c,e,_⟩:=(RE.tl h).len;exact⟨a,c,e⟩
 have ez:ecl ze zs=#[.int .i64 0,.string ⟨#[]⟩,.slice none 0 0,.slice none 0 0,.int .i64 0,.bool false,.bool false,.string ⟨#[]⟩,.int .i64 0,.int .u64 0,.string ⟨#[]⟩,.slice none 0 0,.slice none 0 0]:=rfl;rw[ez]at p2 p3;rw[show aj Rv=⟨#[46,32,97,32,59,32,91,32,116,111,110,117,109,32,93,32,59,32,115,117,109]⟩from rfl]at q1;rw[show aj Ru=⟨#[114,101,99,111,114,100,32,123,32,105,100,32,58,32,105,110,116,32,44,32,116,97,103,115,32,58,32,108,105,115,116,32,40,32,116,101,120,116,32,41,32,125]⟩from rfl]at q4;clear g hP hf ez;obtain⟨h1,Up⟩:∃h,ehd _ (zF gk)=h:=⟨_,rfl⟩
 obtain⟨h4,Uo⟩:∃h,gz _ (Cj gk)=h:=⟨_,rfl⟩
 rw[Up]at p1 q1;rw[Uo]at p4 q4;clear Up Uo;unfold NQ at p1;unfold NO at p2;unfold NN at p3;unfold NK at p4;unfold ecl at p1 q1;unfold cE fR at p4 q4
 dsimp only at p2 p3
 go_enter func11,ntmps11;go_wp2_with(go_at_call 9;refine ak.out ?_)
 refine ak.mk ?_;refine(p1.out _ af).mono ?_;rintro e w1 ⟨q,rfl,Jy,ai⟩;obtain⟨a3,c3,PH⟩:=Ig.out w1 q Jy;obtain⟨x1,y1,z1,x2,y2,z2,x3,y3,z3,x4,y4,z4,aK⟩:=Jy.shape;subst aK;obtain⟨rfl,rfl,rfl⟩:=Value.slice.inj PH;have R1:=aa Jy;have B1:=aa ai;have X1:=aa (bC w1 h1 ⟨.slice x1 y1 z1,.slice x2 3 z2,.slice x3 y3 z3,.slice x4 y4 z4⟩);have c1:=aa (q1.out ⟨.slice x1 y1 z1,.slice x2 3 z2,.slice x3 y3 z3,.slice x4 y4 z4⟩ (w1.alloc (.cells (ecl h1 ⟨.slice x1 y1 z1,.slice x2 3 z2,.slice x3 y3 z3,.slice x4 y4 z4⟩) 33)) (ab ai) (Jy.below (ab af)));clear Jy ai p1 q1 Ig PH;unfold ecl at X1 c1
 dsimp only at X1 c1 ⊢
 go_wp2_with(go_at_call 15;refine ak.out ?_)
 refine ak.mk ?_;refine c1.out.mono ?_;rintro e w2 ⟨rfl,aq⟩;have B2:=aa (ac (ab B1.out) aq);have X2:=aa (X1.out.below aq);clear aq c1 X1;go_wp2_with(go_at_call 9;refine ak.out ?_)
 refine ak.mk ?_;refine(p2.out _ B2.out).mono ?_;rintro e w3 ⟨rfl,ar⟩;have B3:=aa (ab (o:=.cells #[.int .i64 0,.string ⟨#[]⟩,.slice none 0 0,.slice none 0 0,.int .i64 0,.bool false,.bool false,.string ⟨#[]⟩,.int .i64 0,.int .u64 0,.string ⟨#[]⟩,.slice none 0 0,.slice none 0 0] 33) (ac B2.out ar));have X3:=aa ((X2.out.below ar).below (ab (o:=.cells #[.int .i64 0,.string ⟨#[]⟩,.slice none 0 0,.slice none 0 0,.int .i64 0,.bool false,.bool false,.string ⟨#[]⟩,.int .i64 0,.int .u64 0,.string ⟨#[]⟩,.slice none 0 0,.slice none 0 0] 33) af));clear ar p2 X2;go_wp2_with(go_at_call 9;refine ak.out ?_)
 refine ak.mk ?_;refine(p3.out _ B3.out).mono ?_;rintro e w4 ⟨rfl,aO⟩;have B4:=aa (ab (o:=.cells #[.int .i64 0,.string ⟨#[]⟩,.slice none 0 0,.slice none 0 0,.int .i64 0,.bool false,.bool false,.string ⟨#[]⟩,.int .i64 0,.int .u64 0,.string ⟨#[]⟩,.slice none 0 0,.slice none 0 0] 33) (ac B3.out aO));have X4:=aa ((X3.out.below aO).below (ab (o:=.cells #[.int .i64 0,.string ⟨#[]⟩,.slice none 0 0,.slice none 0 0,.int .i64 0,.bool false,.bool false,.string ⟨#[]⟩,.int .i64 0,.int .u64 0,.string ⟨#[]⟩,.slice none 0 0,.slice none 0 0] 33) af));clear aO p3 X3;go_wp2_with(go_at_call 20;refine ak.out ?_)
 refine ak.mk ?_;refine(p4.out _ B4.out).mono ?_;rintro e w5 ⟨q',rfl,vN,bg⟩;obtain⟨u1,v1,t1,u2,v2,t2,aK⟩:=lN.shape vN;subst aK;have B5:=aa (ac B4.out bg);have X5:=aa ((X4.out.below bg).below (ab (o:=.cells (cE h4 ⟨.slice u1 v1 t1,.slice u2 v2 t2⟩) 48) af));have c5:=aa (q4.out ⟨.slice u1 v1 t1,.slice u2 v2 t2⟩ (w5.alloc (.cells (cE h4 ⟨.slice u1 v1 t1,.slice u2 v2 t2⟩) 48)) (ab B5.out) (lN.below vN (ab af)));clear vN bg p4 q4 X4;unfold cE fR at c5 X5
 dsimp only at c5 X5 ⊢
 go_wp2_with(go_at_call 22;refine ak.out ?_)
 refine ak.mk ?_;refine c5.out.mono ?_;rintro e w6 ⟨rfl,da⟩;have B6:=aa (ac (ab B5.out) da);have k6:=(X5.out.below da).cells.2.2.2.1;clear da c5 X5;go_wp2_with fail
 go_ret;exact⟨rfl,B6.out⟩
theorem Di(rv:tL)(n:Nat)(v:VT n)(ns ls:Value)(w:World)(hr:RD n w v ns ls)(hz:Sz n v):Calls prog 144 #[.agg (aP (aI n v) ns ls)] w fun e w'=>TB (jI (aI n v).kind/\iL n v) w e w':=by
 have hf:=aa (fun W (hb:Below w.heap.size w W)=>xN rv n v ns ls W (hr.below hb) hz);obtain⟨p,hp⟩:∃p,iL n v=p:=⟨_,rfl⟩
 have nj:Hid (p->1<=(aI n v).kind):=fun q=>by
  rw[<-hp]at q;cases n with
  |zero=>exact Empty.elim v
  |succ n=>exact q.1.1
 obtain⟨a1,m1,d1,a2,m2,d2,rfl,rfl⟩:=hr.shape;obtain⟨h,hh⟩:∃h,aI n v=h:=⟨_,rfl⟩
 rw[hp]at hf ⊢;rw[hh]at hf nj ⊢;have dM:=aa (eg w h (.slice a1 m1 d1) (.slice a2 m2 d2));have db:=aa (ab (o:=.cells (aP h (.slice a1 m1 d1) (.slice a2 m2 d2)) 31) (Below.refl w.heap.size w));have c0:=dM.out.cells;have vj:=aa (hf.out _ db.out);clear hf hr hz hp hh;unfold aP at vj db ⊢;clear dM;obtain⟨kd,fl,ng,dg,ex,bt,tx,nms⟩:=h;simp only at nj vj db c0 ⊢;by_cases h3:kd<=3
 ·go_enter func144,ntmps144
  go_wp2_with(go_at_call 171;refine vj.out.mono ?_;rintro e w1 ⟨b,rfl,hT,ai⟩)
  have eN:=aa hT;have B1:=aa (ac db.out ai);clear hT ai;go_wp2_with fail
  go_ret;exact⟨b,rfl,(show Hid _ from⟨fun q=>⟨by have:=nj.out (eN.out.1 q);unfold jI;omega,eN.out.1 q⟩,fun q=>eN.out.2 q.2⟩),B1.out⟩
 by_cases h5:kd=5
 ·subst h5
  go_enter func144,ntmps144;go_wp2_with(go_at_call 171;refine vj.out.mono ?_;rintro e w1 ⟨b,rfl,hT,ai⟩)
  have eN:=aa hT;have B1:=aa (ac db.out ai);clear hT ai;go_wp2_with fail
  go_ret;exact⟨b,rfl,(show Hid _ from⟨fun q=>⟨by unfold jI;simp,eN.out.1 q⟩,fun q=>eN.out.2 q.2⟩),B1.out⟩
 have h5b:(kd==5)=false:=by simp[h5]
 go_enter func144,ntmps144;go_wp2_with fail
 go_ret;exact TB.no (fun q=>by have:=q.1;unfold jI at this;omega) db.out
def jT(n:Nat)(x:ET (n+1)):Prop:=dH x.1 x.2/\rr (n+1) x
section
variable {n : Nat} {nm : ByteArray} {nms : List ByteArray} {vn : Nat} {val : VT vn} {l : List (ET n)}
theorem Ou(k:Int)(hk:k=1\/k=8\/k=9\/k=10\/k=11):jT n (⟨k,nm,nms,vn,val⟩,l)↔nm=⟨#[]⟩/\nms=[]/\VZ vn val/\l.length=0:=by
 unfold jT dH rr;constructor
 ·rintro⟨⟨b1,b3,b4,b5,b6⟩,_⟩
  simp only at b1 b3 b4 b5 b6;refine⟨by rcases b3 with q|q|q;omega;omega;exact q,by rcases b4 with q|q|q;omega;omega;exact q,by rcases b6 with q|q;omega;exact q,?_⟩;rcases b5 with q|q|q|q|q
  ·omega
  ·omega
  ·omega
  ·omega
  rw[q];rfl
 rintro⟨h1,h2,h3,h4⟩;have hl:=List.eq_nil_of_length_eq_zero h4;refine⟨⟨by simp only;omega,Or.inr (Or.inr h1),Or.inr (Or.inr h2),Or.inr (Or.inr (Or.inr (Or.inr hl))),Or.inr h3⟩,fun q=>?_,fun q=>?_,fun q=>?_,?_⟩
 ·have q:k=4:=q;omega
 ·have q:k=12:=q;omega
 ·have q:k=7:=q;omega
 have e:cX ⟨k,nm,nms,vn,val⟩ l.length=⟨1,fQ⟩:=by unfold cX;rw[if_neg (by simp only;omega),if_neg (by simp only;omega),if_neg (by simp only;omega)]
 show iL _ (cX ⟨k,nm,nms,vn,val⟩ l.length).2;rw[e];exact dZ
theorem Ot(k:Int)(hk:k=2\/k=5):jT n (⟨k,nm,nms,vn,val⟩,l)↔nms=[]/\VZ vn val/\Go.Proofs.YtcnfchblfcfimaaGreatDoor.okT nm=true/\l.length=0:=by
 have e:cX ⟨k,nm,nms,vn,val⟩ l.length=⟨2,(lJ 9 nm [],List.replicate 1 fQ)⟩:=by unfold cX;rw[if_pos (by simp only;omega)]
 have ei:(iL _ (cX ⟨k,nm,nms,vn,val⟩ l.length).2)↔Go.Proofs.YtcnfchblfcfimaaGreatDoor.okT nm=true:=by rw[e];exact rM nm
 unfold jT dH rr;constructor
 ·rintro⟨⟨b1,b3,b4,b5,b6⟩,_,_,_,hv⟩
  simp only at b1 b3 b4 b5 b6;refine⟨by rcases b4 with q|q|q;omega;omega;exact q,by rcases b6 with q|q;omega;exact q,ei.1 hv,?_⟩;rcases b5 with q|q|q|q|q
  ·omega
  ·omega
  ·omega
  ·omega
  rw[q];rfl
 rintro⟨h2,h3,ho,h4⟩;have hl:=List.eq_nil_of_length_eq_zero h4;refine⟨⟨by simp only;omega,by simp only;omega,Or.inr (Or.inr h2),Or.inr (Or.inr (Or.inr (Or.inr hl))),Or.inr h3⟩,fun q=>?_,fun q=>?_,fun q=>?_,ei.2 ho⟩
 ·have q:k=4:=q;omega
 ·have q:k=12:=q;omega
 have q:k=7:=q;omega
theorem yN(m:Nat):iL 2 ((lJ 8 aR nms,List.replicate m fQ):VT 2)↔nms.length=m/\oB nms:=by
 constructor
 ·intro h
  have:=h.2.1.2.2.1 rfl
  simpa [lJ] using this
 rintro⟨h1,h2⟩;refine⟨⟨show(1:Int)<=8 by decide,show(8:Int)<=9 by decide,rfl,Or.inl (show(7:Int)<=8 by decide)⟩,⟨fun q=>absurd (show(8:Int)=3 from q) (by decide),fun q=>absurd (show(8:Int)=5 from q) (by decide),fun _=>⟨by simpa [lJ] using h1,h2⟩,fun q=>absurd (show(8:Int)=9 from q) (by decide)⟩,fun y hy=>?_⟩;rw[List.eq_of_mem_replicate hy];exact dZ
theorem Oq(k:Int)(hk:k=3\/k=6):jT n (⟨k,nm,nms,vn,val⟩,l)↔nm=⟨#[]⟩/\VZ vn val/\oB nms/\nms.length=l.length:=by
 have e:cX ⟨k,nm,nms,vn,val⟩ l.length=⟨2,(lJ 8 aR nms,List.replicate l.length fQ)⟩:=by unfold cX;rw[if_neg (by simp only;omega),if_pos (by simp only;omega)]
 have ei:(iL _ (cX ⟨k,nm,nms,vn,val⟩ l.length).2)↔nms.length=l.length/\oB nms:=by rw[e];exact yN _
 unfold jT dH rr;constructor
 ·rintro⟨⟨b1,b3,b4,b5,b6⟩,_,_,_,hv⟩
  simp only at b1 b3 b4 b5 b6;obtain⟨i1,i2⟩:=ei.1 hv;exact⟨by rcases b3 with q|q|q;omega;omega;exact q,by rcases b6 with q|q;omega;exact q,i2,i1⟩
 rintro⟨h1,h3,i2,i1⟩;refine⟨⟨by simp only;omega,Or.inr (Or.inr h1),by simp only;omega,by simp only;omega,Or.inr h3⟩,fun q=>?_,fun q=>?_,fun q=>?_,ei.2 ⟨i1,i2⟩⟩
 ·have q:k=4:=q;omega
 ·have q:k=12:=q;omega
 have q:k=7:=q;omega
theorem Oo(k:Int)(hk:k=4\/k=12):jT n (⟨k,nm,nms,vn,val⟩,l)↔nm=⟨#[]⟩/\nms=[]/\VZ vn val/\(k=4->l.length=1)/\(k=12->2<=l.length):=by
 unfold jT dH rr;constructor
 ·rintro⟨⟨b1,b3,b4,b5,b6⟩,h4,iK,_,_⟩
  simp only at b1 b3 b4 b5 b6;exact⟨by rcases b3 with q|q|q;omega;omega;exact q,by rcases b4 with q|q|q;omega;omega;exact q,by rcases b6 with q|q;omega;exact q,h4,iK⟩
 rintro⟨h1,h2,h3,h4,iK⟩;refine⟨⟨by simp only;omega,Or.inr (Or.inr h1),Or.inr (Or.inr h2),by simp only;omega,Or.inr h3⟩,h4,iK,fun q=>?_,?_⟩
 ·have q:k=7:=q;omega
 have e:cX ⟨k,nm,nms,vn,val⟩ l.length=⟨1,fQ⟩:=by unfold cX;rw[if_neg (by simp only;omega),if_neg (by simp only;omega),if_neg (by simp only;omega)]
 show iL _ (cX ⟨k,nm,nms,vn,val⟩ l.length).2;rw[e];exact dZ
theorem On:jT n (⟨7,nm,nms,vn,val⟩,l)↔nm=⟨#[]⟩/\nms=[]/\(jI (aI vn val).kind/\iL vn val)/\l.length=0:=by
 have e:cX ⟨7,nm,nms,vn,val⟩ l.length=⟨vn,val⟩:=by simp[cX]
 have ei:(iL _ (cX ⟨7,nm,nms,vn,val⟩ l.length).2)↔iL vn val:=by rw[e]
 unfold jT dH rr;constructor
 ·rintro⟨⟨b1,b3,b4,b5,b6⟩,_,_,h7,hv⟩
  simp only at b1 b3 b4 b5 b6;refine⟨by rcases b3 with q|q|q;omega;omega;exact q,by rcases b4 with q|q|q;omega;omega;exact q,⟨h7 rfl,ei.1 hv⟩,?_⟩;rcases b5 with q|q|q|q|q
  ·omega
  ·omega
  ·omega
  ·omega
  rw[q];rfl
 rintro⟨h1,h2,⟨hc,hv⟩,h4⟩;have hl:=List.eq_nil_of_length_eq_zero h4;refine⟨⟨by simp only;omega,Or.inr (Or.inr h1),Or.inr (Or.inr h2),Or.inr (Or.inr (Or.inr (Or.inr hl))),Or.inl rfl⟩,fun q=>?_,fun q=>?_,fun _=>hc,ei.2 hv⟩
 ·have q:(7:Int)=4:=q;omega
 have q:(7:Int)=12:=q;omega
theorem Ov(k:Int)(hk:k<1\/12<k):¬jT n (⟨k,nm,nms,vn,val⟩,l):=by rintro⟨⟨b1,_⟩,_⟩;simp only at b1;omega
end
theorem CX(rv:tL)(n:Nat)(k:Int)(nm:ByteArray)(nms:List ByteArray)(vn:Nat)(val:VT vn)(l:List (ET n))(q:Sl)(w:World)(hr:RE (n+1) w (⟨k,nm,nms,vn,val⟩,l) q)(hz:zN (n+1) (⟨k,nm,nms,vn,val⟩,l)):Calls prog 93 #[.agg (ecl ⟨k,nm,nms,vn,val⟩ q)] w fun e w'=>TB (jT n (⟨k,nm,nms,vn,val⟩,l)) w e w':=by
 obtain⟨al,cl,cd,bB,br⟩:=hr.tl.len;obtain⟨an,cn,aQ,cm,df⟩:=hr.1.len;obtain⟨x1,y1,z1,x2,y2,z2,x3,y3,z3,x4,y4,z4,aK⟩:=hr.shape;subst aK;obtain⟨rfl,rfl,rfl⟩:=Value.slice.inj cd;obtain⟨rfl,rfl,rfl⟩:=Value.slice.inj aQ;clear cd aQ;simp only at cm df bB br;show Calls _ _ #[.agg (ecl ⟨k,nm,nms,vn,val⟩ ⟨.slice x1 nms.length z1,.slice x2 l.length z2,.slice x3 y3 z3,.slice x4 y4 z4⟩)] _ _;obtain⟨s1,s2,s3,s4,s5⟩:=hz;have hE:=aa (fun W (hb:Below w.heap.size w W)=>by
  cases vn with
  |zero=>exact Empty.elim val
  |succ vn=>exact pG (vn+1) val (zr 0,[]) (.slice x3 y3 z3) (.slice x4 y4 z4) (.slice none 0 0) (.slice none 0 0) W (hr.2.1.below hb) (dt vn W 0):∀W,Below w.heap.size w W->Calls prog 30 #[.agg (aP (aI vn val) (.slice x3 y3 z3) (.slice x4 y4 z4)),.agg (aP (zr 0) (.slice none 0 0) (.slice none 0 0))] W fun e w'=>TB (VZ vn val) W e w')
 have hV:=aa (fun W=>rv nm W s1);have hN:=aa (fun W (hb:Below w.heap.size w W)=>wF rv (.slice x1 nms.length z1) nms W (hr.1.below hb) s3);have hC:=aa (fun W (hb:Below w.heap.size w W)=>Di rv vn val (.slice x3 y3 z3) (.slice x4 y4 z4) W (hr.2.1.below hb) s4);have X0:=aa (ft w ⟨k,nm,nms,vn,val⟩ ⟨.slice x1 nms.length z1,.slice x2 l.length z2,.slice x3 y3 z3,.slice x4 y4 z4⟩);have b0:=aa (ab (o:=.cells (ecl ⟨k,nm,nms,vn,val⟩ ⟨.slice x1 nms.length z1,.slice x2 l.length z2,.slice x3 y3 z3,.slice x4 y4 z4⟩) 33) (Below.refl w.heap.size w));have o1:=aa (fun hk=>Ou (n:=n) (nm:=nm) (nms:=nms) (val:=val) (l:=l) k hk);have o2:=aa (fun hk=>Ot (n:=n) (nm:=nm) (nms:=nms) (val:=val) (l:=l) k hk);have o3:=aa (fun hk=>Oq (n:=n) (nm:=nm) (nms:=nms) (val:=val) (l:=l) k hk);have o4:=aa (fun hk=>Oo (n:=n) (nm:=nm) (nms:=nms) (val:=val) (l:=l) k hk);have o0:=aa (fun hk=>Ov (n:=n) (nm:=nm) (nms:=nms) (val:=val) (l:=l) k hk);have o7:=aa (fun(hk:k=7)=>by subst hk;exact On (n:=n) (nm:=nm) (nms:=nms) (val:=val) (l:=l):k=7->(jT n (⟨k,nm,nms,vn,val⟩,l)↔nm=⟨#[]⟩/\nms=[]/\(jI (aI vn val).kind/\iL vn val)/\l.length=0));obtain⟨P,hP⟩:∃P,jT n (⟨k,nm,nms,vn,val⟩,l)=P:=⟨_,rfl⟩
 rw[hP]at o1 o2 o3 o4 o0 o7 ⊢;have gl:Hid (nms=[]↔nms.length=0):=List.length_eq_zero_iff.symm;obtain⟨N,tV⟩:∃N,nms.length=N:=⟨_,rfl⟩
 obtain⟨M,UI⟩:∃M,l.length=M:=⟨_,rfl⟩
 rw[tV]at hN X0 b0 cm gl o3 ⊢;rw[UI]at X0 b0 bB o1 o2 o3 o4 o7 ⊢;obtain⟨vv,kB⟩:∃vv,aI vn val=vv:=⟨_,rfl⟩
 have c0:=X0.out.cells;simp only at c0;have zA:=aa (hE.out _ b0.out);have Qo:=aa (hN.out _ b0.out);have Rl:=aa (hC.out _ b0.out);have UC:=aa (hV.out (w.alloc (.cells (ecl ⟨k,nm,nms,vn,val⟩ ⟨.slice x1 N z1,.slice x2 M z2,.slice x3 y3 z3,.slice x4 y4 z4⟩) 33)));unfold aP at zA Rl;unfold ecl at zA Qo Rl UC b0 X0 ⊢;simp only[kB]at zA Qo Rl UC b0 c0 o7 X0 ⊢;have ep:=aa kB;clear hE hr s1 s2 s3 s4 s5 hP tV UI kB;by_cases eM:k<1
 ·go_enter func93,ntmps93
  go_wp2_with fail
  go_ret;exact TB.no (o0.out (Or.inl eM)) b0.out
 by_cases Ij:12<k
 ·go_enter func93,ntmps93
  go_wp2_with fail
  go_ret;exact TB.no (o0.out (Or.inr Ij)) b0.out
 have hk:k=1\/k=8\/k=9\/k=10\/k=11\/k=2\/k=5\/k=3\/k=6\/k=4\/k=12\/k=7:=by omega
 clear eM Ij;rcases hk with nj|Nn|hk9|hk10|hk11|nU|iy|AV|JA|Ii|hk12|hk7
 ·subst nj
  have oo:=aa (o1.out (by omega));clear o1 o2 o3 o4 o0 o7;by_cases e1:nm=⟨#[]⟩
  ·subst e1
   by_cases e2:N=0
   ·subst e2
    go_enter func93,ntmps93;go_wp2_with(go_at_call 30;refine ak.out ?_)
    refine ak.mk ?_;refine zA.out.mono ?_;rintro e w1 ⟨b,rfl,hT,ai⟩;have eN:=aa hT;have B1:=aa (ac b0.out ai);have X1:=aa (X0.out.below ai);have c1:=X1.out.cells;simp only[ep.out]at c1;clear hT ai c0;cases b
    ·go_wp2_with fail
     go_ret;exact TB.no (fun z=>by have:=eN.out.2 (oo.out.1 z).2.2.1;cases this) B1.out
    by_cases e5:M=0
    ·subst e5
     go_wp2_with fail
     go_ret;exact TB.yes (oo.out.2 ⟨(by first|rfl|trivial),gl.out.2 (by first|rfl|trivial),eN.out.1 (by first|rfl|trivial),(by first|rfl|trivial)⟩) B1.out
    have e5b:((M:Int)==0)=false:=by simp[e5]
    go_wp2_with fail
    go_ret;exact TB.no (fun z=>e5 (oo.out.1 z).2.2.2) B1.out
   have e2b:(0:Int)<(N:Int):=by omega
   go_enter func93,ntmps93;go_wp2_with fail
   go_ret;exact TB.no (fun z=>e2 (gl.out.1 (oo.out.1 z).2.1)) b0.out
  have e1b:=gh e1;go_enter func93,ntmps93;go_wp2_with fail
  go_ret;exact TB.no (fun z=>e1 (oo.out.1 z).1) b0.out
 ·subst Nn
  have oo:=aa (o1.out (by omega));clear o1 o2 o3 o4 o0 o7;by_cases e1:nm=⟨#[]⟩
  ·subst e1
   by_cases e2:N=0
   ·subst e2
    go_enter func93,ntmps93;go_wp2_with(go_at_call 30;refine ak.out ?_)
    refine ak.mk ?_;refine zA.out.mono ?_;rintro e w1 ⟨b,rfl,hT,ai⟩;have eN:=aa hT;have B1:=aa (ac b0.out ai);have X1:=aa (X0.out.below ai);have c1:=X1.out.cells;simp only[ep.out]at c1;clear hT ai c0;cases b
    ·go_wp2_with fail
     go_ret;exact TB.no (fun z=>by have:=eN.out.2 (oo.out.1 z).2.2.1;cases this) B1.out
    by_cases e5:M=0
    ·subst e5
     go_wp2_with fail
     go_ret;exact TB.yes (oo.out.2 ⟨(by first|rfl|trivial),gl.out.2 (by first|rfl|trivial),eN.out.1 (by first|rfl|trivial),(by first|rfl|trivial)⟩) B1.out
    have e5b:((M:Int)==0)=false:=by simp[e5]
    go_wp2_with fail
    go_ret;exact TB.no (fun z=>e5 (oo.out.1 z).2.2.2) B1.out
   have e2b:(0:Int)<(N:Int):=by omega
   go_enter func93,ntmps93;go_wp2_with fail
   go_ret;exact TB.no (fun z=>e2 (gl.out.1 (oo.out.1 z).2.1)) b0.out
  have e1b:=gh e1;go_enter func93,ntmps93;go_wp2_with fail
  go_ret;exact TB.no (fun z=>e1 (oo.out.1 z).1) b0.out
 ·subst hk9
  have oo:=aa (o1.out (by omega));clear o1 o2 o3 o4 o0 o7;by_cases e1:nm=⟨#[]⟩
  ·subst e1
   by_cases e2:N=0
   ·subst e2
    go_enter func93,ntmps93;go_wp2_with(go_at_call 30;refine ak.out ?_)
    refine ak.mk ?_;refine zA.out.mono ?_;rintro e w1 ⟨b,rfl,hT,ai⟩;have eN:=aa hT;have B1:=aa (ac b0.out ai);have X1:=aa (X0.out.below ai);have c1:=X1.out.cells;simp only[ep.out]at c1;clear hT ai c0;cases b
    ·go_wp2_with fail
     go_ret;exact TB.no (fun z=>by have:=eN.out.2 (oo.out.1 z).2.2.1;cases this) B1.out
    by_cases e5:M=0
    ·subst e5
     go_wp2_with fail
     go_ret;exact TB.yes (oo.out.2 ⟨(by first|rfl|trivial),gl.out.2 (by first|rfl|trivial),eN.out.1 (by first|rfl|trivial),(by first|rfl|trivial)⟩) B1.out
    have e5b:((M:Int)==0)=false:=by simp[e5]
    go_wp2_with fail
    go_ret;exact TB.no (fun z=>e5 (oo.out.1 z).2.2.2) B1.out
   have e2b:(0:Int)<(N:Int):=by omega
   go_enter func93,ntmps93;go_wp2_with fail
   go_ret;exact TB.no (fun z=>e2 (gl.out.1 (oo.out.1 z).2.1)) b0.out
  have e1b:=gh e1;go_enter func93,ntmps93;go_wp2_with fail
  go_ret;exact TB.no (fun z=>e1 (oo.out.1 z).1) b0.out
 ·subst hk10
  have oo:=aa (o1.out (by omega));clear o1 o2 o3 o4 o0 o7;by_cases e1:nm=⟨#[]⟩
  ·subst e1
   by_cases e2:N=0
   ·subst e2
    go_enter func93,ntmps93;go_wp2_with(go_at_call 30;refine ak.out ?_)
    refine ak.mk ?_;refine zA.out.mono ?_;rintro e w1 ⟨b,rfl,hT,ai⟩;have eN:=aa hT;have B1:=aa (ac b0.out ai);have X1:=aa (X0.out.below ai);have c1:=X1.out.cells;simp only[ep.out]at c1;clear hT ai c0;cases b
    ·go_wp2_with fail
     go_ret;exact TB.no (fun z=>by have:=eN.out.2 (oo.out.1 z).2.2.1;cases this) B1.out
    by_cases e5:M=0
    ·subst e5
     go_wp2_with fail
     go_ret;exact TB.yes (oo.out.2 ⟨(by first|rfl|trivial),gl.out.2 (by first|rfl|trivial),eN.out.1 (by first|rfl|trivial),(by first|rfl|trivial)⟩) B1.out
    have e5b:((M:Int)==0)=false:=by simp[e5]
    go_wp2_with fail
    go_ret;exact TB.no (fun z=>e5 (oo.out.1 z).2.2.2) B1.out
   have e2b:(0:Int)<(N:Int):=by omega
   go_enter func93,ntmps93;go_wp2_with fail
   go_ret;exact TB.no (fun z=>e2 (gl.out.1 (oo.out.1 z).2.1)) b0.out
  have e1b:=gh e1;go_enter func93,ntmps93;go_wp2_with fail
  go_ret;exact TB.no (fun z=>e1 (oo.out.1 z).1) b0.out
 ·subst hk11
  have oo:=aa (o1.out (by omega));clear o1 o2 o3 o4 o0 o7;by_cases e1:nm=⟨#[]⟩
  ·subst e1
   by_cases e2:N=0
   ·subst e2
    go_enter func93,ntmps93;go_wp2_with(go_at_call 30;refine ak.out ?_)
    refine ak.mk ?_;refine zA.out.mono ?_;rintro e w1 ⟨b,rfl,hT,ai⟩;have eN:=aa hT;have B1:=aa (ac b0.out ai);have X1:=aa (X0.out.below ai);have c1:=X1.out.cells;simp only[ep.out]at c1;clear hT ai c0;cases b
    ·go_wp2_with fail
     go_ret;exact TB.no (fun z=>by have:=eN.out.2 (oo.out.1 z).2.2.1;cases this) B1.out
    by_cases e5:M=0
    ·subst e5
     go_wp2_with fail
     go_ret;exact TB.yes (oo.out.2 ⟨(by first|rfl|trivial),gl.out.2 (by first|rfl|trivial),eN.out.1 (by first|rfl|trivial),(by first|rfl|trivial)⟩) B1.out
    have e5b:((M:Int)==0)=false:=by simp[e5]
    go_wp2_with fail
    go_ret;exact TB.no (fun z=>e5 (oo.out.1 z).2.2.2) B1.out
   have e2b:(0:Int)<(N:Int):=by omega
   go_enter func93,ntmps93;go_wp2_with fail
   go_ret;exact TB.no (fun z=>e2 (gl.out.1 (oo.out.1 z).2.1)) b0.out
  have e1b:=gh e1;go_enter func93,ntmps93;go_wp2_with fail
  go_ret;exact TB.no (fun z=>e1 (oo.out.1 z).1) b0.out
 ·subst nU
  have oo:=aa (o2.out (by omega));clear o1 o2 o3 o4 o0 o7;by_cases e2:N=0
  ·subst e2
   go_enter func93,ntmps93;go_wp2_with(go_at_call 30;refine ak.out ?_)
   refine ak.mk ?_;refine zA.out.mono ?_;rintro e w1 ⟨b,rfl,hT,ai⟩;have eN:=aa hT;have B1:=aa (ac b0.out ai);have X1:=aa (X0.out.below ai);have c1:=X1.out.cells;simp only[ep.out]at c1;clear hT ai c0;cases b
   ·go_wp2_with fail
    go_ret;exact TB.no (fun z=>by have:=eN.out.2 (oo.out.1 z).2.1;cases this) B1.out
   go_wp2_with(go_at_call 141;refine ak.out ?_)
   refine ak.mk ?_;refine(hV.out _).mono ?_;rintro e w2 ⟨rfl,aq⟩;have B2:=aa (ac B1.out aq);have c2:=(X1.out.below aq).cells;simp only[ep.out]at c2;clear aq c1;cases ho:Go.Proofs.YtcnfchblfcfimaaGreatDoor.okT nm
   ·have nR:=aa ho
    clear ho;go_wp2_with fail
    go_ret;exact TB.no (fun z=>by have:=(oo.out.1 z).2.2.1;rw[nR.out]at this;cases this) B2.out
   have nR:=aa ho;clear ho;by_cases e5:M=0
   ·subst e5
    go_wp2_with fail
    go_ret;exact TB.yes (oo.out.2 ⟨gl.out.2 (by first|rfl|trivial),eN.out.1 (by first|rfl|trivial),nR.out,(by first|rfl|trivial)⟩) B2.out
   have e5b:((M:Int)==0)=false:=by simp[e5]
   go_wp2_with fail
   go_ret;exact TB.no (fun z=>e5 (oo.out.1 z).2.2.2) B2.out
  have e2b:(0:Int)<(N:Int):=by omega
  go_enter func93,ntmps93;go_wp2_with fail
  go_ret;exact TB.no (fun z=>e2 (gl.out.1 (oo.out.1 z).1)) b0.out
 ·subst iy
  have oo:=aa (o2.out (by omega));clear o1 o2 o3 o4 o0 o7;by_cases e2:N=0
  ·subst e2
   go_enter func93,ntmps93;go_wp2_with(go_at_call 30;refine ak.out ?_)
   refine ak.mk ?_;refine zA.out.mono ?_;rintro e w1 ⟨b,rfl,hT,ai⟩;have eN:=aa hT;have B1:=aa (ac b0.out ai);have X1:=aa (X0.out.below ai);have c1:=X1.out.cells;simp only[ep.out]at c1;clear hT ai c0;cases b
   ·go_wp2_with fail
    go_ret;exact TB.no (fun z=>by have:=eN.out.2 (oo.out.1 z).2.1;cases this) B1.out
   go_wp2_with(go_at_call 141;refine ak.out ?_)
   refine ak.mk ?_;refine(hV.out _).mono ?_;rintro e w2 ⟨rfl,aq⟩;have B2:=aa (ac B1.out aq);have c2:=(X1.out.below aq).cells;simp only[ep.out]at c2;clear aq c1;cases ho:Go.Proofs.YtcnfchblfcfimaaGreatDoor.okT nm
   ·have nR:=aa ho
    clear ho;go_wp2_with fail
    go_ret;exact TB.no (fun z=>by have:=(oo.out.1 z).2.2.1;rw[nR.out]at this;cases this) B2.out
   have nR:=aa ho;clear ho;by_cases e5:M=0
   ·subst e5
    go_wp2_with fail
    go_ret;exact TB.yes (oo.out.2 ⟨gl.out.2 (by first|rfl|trivial),eN.out.1 (by first|rfl|trivial),nR.out,(by first|rfl|trivial)⟩) B2.out
   have e5b:((M:Int)==0)=false:=by simp[e5]
   go_wp2_with fail
   go_ret;exact TB.no (fun z=>e5 (oo.out.1 z).2.2.2) B2.out
  have e2b:(0:Int)<(N:Int):=by omega
  go_enter func93,ntmps93;go_wp2_with fail
  go_ret;exact TB.no (fun z=>e2 (gl.out.1 (oo.out.1 z).1)) b0.out
 ·subst AV
  have oo:=aa (o3.out (by omega));clear o1 o2 o3 o4 o0 o7;by_cases e1:nm=⟨#[]⟩
  ·subst e1
   go_enter func93,ntmps93;go_wp2_with(go_at_call 30;refine ak.out ?_)
   refine ak.mk ?_;refine zA.out.mono ?_;rintro e w1 ⟨b,rfl,hT,ai⟩;have eN:=aa hT;have B1:=aa (ac b0.out ai);have X1:=aa (X0.out.below ai);have c1:=X1.out.cells;simp only[ep.out]at c1;clear hT ai c0;cases b
   ·go_wp2_with fail
    go_ret;exact TB.no (fun z=>by have:=eN.out.2 (oo.out.1 z).2.1;cases this) B1.out
   go_wp2_with(go_at_call 143;refine ak.out ?_)
   refine ak.mk ?_;refine(hN.out _ B1.out).mono ?_;rintro e w2 ⟨b2,rfl,oy,aq⟩;have B2:=aa (ac B1.out aq);have qt:=aa oy;have c2:=(X1.out.below aq).cells;simp only[ep.out]at c2;clear aq c1 oy;cases b2
   ·go_wp2_with fail
    go_ret;exact TB.no (fun z=>by have:=qt.out.2 (oo.out.1 z).2.2.1;cases this) B2.out
   by_cases e5:N=M
   ·subst e5
    go_wp2_with fail
    go_ret;exact TB.yes (oo.out.2 ⟨(by first|rfl|trivial),eN.out.1 (by first|rfl|trivial),qt.out.1 (by first|rfl|trivial),(by first|rfl|trivial)⟩) B2.out
   have e5b:((N:Int)==(M:Int))=false:=by simp;omega
   go_wp2_with fail
   go_ret;exact TB.no (fun z=>e5 (oo.out.1 z).2.2.2) B2.out
  have e1b:=gh e1;go_enter func93,ntmps93;go_wp2_with fail
  go_ret;exact TB.no (fun z=>e1 (oo.out.1 z).1) b0.out
 ·subst JA
  have oo:=aa (o3.out (by omega));clear o1 o2 o3 o4 o0 o7;by_cases e1:nm=⟨#[]⟩
  ·subst e1
   go_enter func93,ntmps93;go_wp2_with(go_at_call 30;refine ak.out ?_)
   refine ak.mk ?_;refine zA.out.mono ?_;rintro e w1 ⟨b,rfl,hT,ai⟩;have eN:=aa hT;have B1:=aa (ac b0.out ai);have X1:=aa (X0.out.below ai);have c1:=X1.out.cells;simp only[ep.out]at c1;clear hT ai c0;cases b
   ·go_wp2_with fail
    go_ret;exact TB.no (fun z=>by have:=eN.out.2 (oo.out.1 z).2.1;cases this) B1.out
   go_wp2_with(go_at_call 143;refine ak.out ?_)
   refine ak.mk ?_;refine(hN.out _ B1.out).mono ?_;rintro e w2 ⟨b2,rfl,oy,aq⟩;have B2:=aa (ac B1.out aq);have qt:=aa oy;have c2:=(X1.out.below aq).cells;simp only[ep.out]at c2;clear aq c1 oy;cases b2
   ·go_wp2_with fail
    go_ret;exact TB.no (fun z=>by have:=qt.out.2 (oo.out.1 z).2.2.1;cases this) B2.out
   by_cases e5:N=M
   ·subst e5
    go_wp2_with fail
    go_ret;exact TB.yes (oo.out.2 ⟨(by first|rfl|trivial),eN.out.1 (by first|rfl|trivial),qt.out.1 (by first|rfl|trivial),(by first|rfl|trivial)⟩) B2.out
   have e5b:((N:Int)==(M:Int))=false:=by simp;omega
   go_wp2_with fail
   go_ret;exact TB.no (fun z=>e5 (oo.out.1 z).2.2.2) B2.out
  have e1b:=gh e1;go_enter func93,ntmps93;go_wp2_with fail
  go_ret;exact TB.no (fun z=>e1 (oo.out.1 z).1) b0.out
 ·subst Ii
  have oo:=aa (o4.out (by omega));clear o1 o2 o3 o4 o0 o7;by_cases e1:nm=⟨#[]⟩
  ·subst e1
   by_cases e2:N=0
   ·subst e2
    go_enter func93,ntmps93;go_wp2_with(go_at_call 30;refine ak.out ?_)
    refine ak.mk ?_;refine zA.out.mono ?_;rintro e w1 ⟨b,rfl,hT,ai⟩;have eN:=aa hT;have B1:=aa (ac b0.out ai);have X1:=aa (X0.out.below ai);have c1:=X1.out.cells;simp only[ep.out]at c1;clear hT ai c0;cases b
    ·go_wp2_with fail
     go_ret;exact TB.no (fun z=>by have:=eN.out.2 (oo.out.1 z).2.2.1;cases this) B1.out
    by_cases e5:M=1
    ·subst e5
     go_wp2_with fail
     go_ret;exact TB.yes (oo.out.2 ⟨(by first|rfl|trivial),gl.out.2 (by first|rfl|trivial),eN.out.1 (by first|rfl|trivial),fun _=>(by first|rfl|trivial),fun q=>absurd q (by decide)⟩) B1.out
    have e5b:((M:Int)==1)=false:=by simp;omega
    go_wp2_with fail
    go_ret;exact TB.no (fun z=>e5 ((oo.out.1 z).2.2.2.1 (by first|rfl|trivial))) B1.out
   have e2b:(0:Int)<(N:Int):=by omega
   go_enter func93,ntmps93;go_wp2_with fail
   go_ret;exact TB.no (fun z=>e2 (gl.out.1 (oo.out.1 z).2.1)) b0.out
  have e1b:=gh e1;go_enter func93,ntmps93;go_wp2_with fail
  go_ret;exact TB.no (fun z=>e1 (oo.out.1 z).1) b0.out
 ·subst hk12
  have oo:=aa (o4.out (by omega));clear o1 o2 o3 o4 o0 o7;by_cases e1:nm=⟨#[]⟩
  ·subst e1
   by_cases e2:N=0
   ·subst e2
    go_enter func93,ntmps93;go_wp2_with(go_at_call 30;refine ak.out ?_)
    refine ak.mk ?_;refine zA.out.mono ?_;rintro e w1 ⟨b,rfl,hT,ai⟩;have eN:=aa hT;have B1:=aa (ac b0.out ai);have X1:=aa (X0.out.below ai);have c1:=X1.out.cells;simp only[ep.out]at c1;clear hT ai c0;cases b
    ·go_wp2_with fail
     go_ret;exact TB.no (fun z=>by have:=eN.out.2 (oo.out.1 z).2.2.1;cases this) B1.out
    by_cases e5:(2:Int)<=(M:Int)
    ·go_wp2_with fail
     go_ret;exact TB.yes (oo.out.2 ⟨(by first|rfl|trivial),gl.out.2 (by first|rfl|trivial),eN.out.1 (by first|rfl|trivial),fun q=>absurd q (by decide),fun _=>by omega⟩) B1.out
    have e5b:decide ((2:Int)<=(M:Int))=false:=decide_eq_false e5;go_wp2_with fail
    go_ret;exact TB.no (fun z=>by have:=(oo.out.1 z).2.2.2.2 (by first|rfl|trivial);omega) B1.out
   have e2b:(0:Int)<(N:Int):=by omega
   go_enter func93,ntmps93;go_wp2_with fail
   go_ret;exact TB.no (fun z=>e2 (gl.out.1 (oo.out.1 z).2.1)) b0.out
  have e1b:=gh e1;go_enter func93,ntmps93;go_wp2_with fail
  go_ret;exact TB.no (fun z=>e1 (oo.out.1 z).1) b0.out
 subst hk7;have oo:=aa (o7.out rfl);clear o1 o2 o3 o4 o0 o7;by_cases e1:nm=⟨#[]⟩
 ·subst e1
  by_cases e2:N=0
  ·subst e2
   go_enter func93,ntmps93;go_wp2_with(go_at_call 144;refine ak.out ?_)
   refine ak.mk ?_;refine Rl.out.mono ?_;rintro e w1 ⟨b,rfl,hT,ai⟩;have eN:=aa hT;have B1:=aa (ac b0.out ai);have c1:=(X0.out.below ai).cells;simp only[ep.out]at c1;clear hT ai c0;cases b
   ·go_wp2_with fail
    go_ret;exact TB.no (fun z=>by have:=eN.out.2 (oo.out.1 z).2.2.1;cases this) B1.out
   by_cases e5:M=0
   ·subst e5
    go_wp2_with fail
    go_ret;exact TB.yes (oo.out.2 ⟨(by first|rfl|trivial),gl.out.2 (by first|rfl|trivial),eN.out.1 (by first|rfl|trivial),(by first|rfl|trivial)⟩) B1.out
   have e5b:((M:Int)==0)=false:=by simp[e5]
   go_wp2_with fail
   go_ret;exact TB.no (fun z=>e5 (oo.out.1 z).2.2.2) B1.out
  have e2b:(0:Int)<(N:Int):=by omega
  go_enter func93,ntmps93;go_wp2_with fail
  go_ret;exact TB.no (fun z=>e2 (gl.out.1 (oo.out.1 z).2.1)) b0.out
 have e1b:=gh e1;go_enter func93,ntmps93;go_wp2_with fail
 go_ret;exact TB.no (fun z=>e1 (oo.out.1 z).1) b0.out
end Lx
