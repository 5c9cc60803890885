import Derived.Test.YtcnfchblfcfimaaGreatDoorZh34
import Derived.Test.YtcnfchblfcfimaaGreatDoorZh28
set_option linter.all false
set_option maxHeartbeats 4000000
set_option maxRecDepth 100000
namespace Go.Proofs.YtcnfchblfcfimaaGreatDoor
open Proofs.Tryz RowKit
namespace Lx
theorem bv(W:World)(B:Nat)(t:Tk)(hB:B<=W.heap.size):OT (W.alloc (.cells #[.int .i64 t.w,.string (aj t.s),.int .i64 t.p] 88)) B (.slice (some ⟨W.heap.size,0,none⟩) 1 1) [t]:=Du W B [t] hB (by simp)
theorem fg(W:World)(B:Nat)(t u:Tk)(hB:B<=W.heap.size):OT (W.alloc (.cells #[.int .i64 t.w,.string (aj t.s),.int .i64 t.p,.int .i64 u.w,.string (aj u.s),.int .i64 u.p] 88)) B (.slice (some ⟨W.heap.size,0,none⟩) 2 2) [t,u]:=Du W B [t,u] hB (by simp)
theorem gC(hP:aW)(s:ByteArray)(w:World)(g:Gg w)(hs:s.size<=60000):Calls prog 74 #[.string s] w fun e w'=>e=.returned (dO (de (bl s)))/\Below w.heap.size w w':=by
 have es:aj (bl s)=s:=dh s;have hp:=aa (fun(W:World) (hb:Below w.heap.size w W) (v:Value) (h:OT W w.heap.size v [wd (bl s)])=>lV hP v [wd (bl s)] W (h.ts (by simp)) (g.below hb g.sz) (fun t ht=>by rw[List.mem_singleton.1 ht];show(bl s).length<=_;rw[bl_length];omega) (by simp));have Z0:=aa (show(w.alloc (.cells #[.int .i64 0,.string ⟨#[]⟩,.int .i64 0] 88)).heap[w.heap.size]?=some (.cells #[.int .i64 0,.string ⟨#[]⟩,.int .i64 0] 88 (0,0))from Array.getElem?_push_size);obtain⟨b,hb⟩:∃b,(kS [wd (bl s)]).1=b:=⟨_,rfl⟩
 have hn:Hid (de (bl s)=if b=0 then wd (bl s) else ⟨2,bl s,0⟩):=by show _=_;rw[<-hb];rfl
 obtain⟨N,hN⟩:∃N,de (bl s)=N:=⟨_,rfl⟩
 rw[hN]at hn ⊢;unfold Ng at hp;rw[hb]at hp;obtain⟨U,hU⟩:∃U,(kS [wd (bl s)]).2=U:=⟨_,rfl⟩
 rw[hU]at hp;have ES:=aa es;clear hP g hb hN hU es hs;go_enter func74,ntmps74;go_wp2_with(go_at_call 75;refine ak.out ?_)
 refine ak.mk ?_;refine(bu s _).mono ?_;rintro e w1 ⟨rfl,ai⟩;have B1:=aa (ac (ab af) ai);have Z1:=aa ((ai.block w.heap.size (by simp)).trans Z0.out);have z1:w.heap.size<w1.heap.size:=by have:=ai.size;simp only[World.size_alloc]at this;omega
 clear ai Z0;have T1:Hid ((w1.alloc (.cells #[.int .i64 1,.string s,.int .i64 0] 88)).heap[w1.heap.size]?=some (.cells #[.int .i64 1,.string s,.int .i64 0] 88 (0,0))):=Array.getElem?_push_size;have O2:Hid (OT ((w1.alloc (.cells #[.int .i64 1,.string s,.int .i64 0] 88)).alloc (.cells #[.int .i64 1,.string s,.int .i64 0] 88)) w.heap.size (.slice (some ⟨w1.heap.size+1,0,none⟩) 1 1) [wd (bl s)]):=by have:=bv (w1.alloc (.cells #[.int .i64 1,.string s,.int .i64 0] 88)) w.heap.size (wd (bl s)) (by simp;omega);simp only[wd,ES.out,World.size_alloc]at this;exact this
 have qI:=aa (hp.out _ (ab (ab B1.out)) _ O2.out);clear hp O2;go_wp2_with(go_at_call 34;refine ak.out ?_)
 refine ak.mk ?_;refine qI.out.mono ?_;rintro e w2 ⟨rfl,aq⟩;have B2:=aa (ac (ab (ab B1.out)) aq);have Z2:=aa ((aq.block w.heap.size (by simp;omega)).trans ((Below.heap_alloc _ _ _ (by simp;omega)).trans ((Below.heap_alloc _ _ _ z1).trans Z1.out)));have T2:=aa ((aq.block w1.heap.size (by simp;omega)).trans ((Below.heap_alloc _ _ _ (by simp)).trans T1.out));clear aq qI Z1 T1;have k0:w2.cell? ⟨w.heap.size,0,none⟩=some (.int .i64 0)/\w2.cell? ⟨w.heap.size,1,none⟩=some (.string ⟨#[]⟩)/\w2.cell? ⟨w.heap.size,2,none⟩=some (.int .i64 0):=by refine⟨?_,?_,?_⟩<;>(unfold World.cell?;rw[Z2.out];rfl)
 have kf:∀j,w2.frozen? ⟨w.heap.size,j,none⟩=false:=fun j=>by have:=Z2.out;simp[World.frozen?,this]
 have t0:w2.cell? ⟨w1.heap.size,0,none⟩=some (.int .i64 1)/\w2.cell? ⟨w1.heap.size,1,none⟩=some (.string s)/\w2.cell? ⟨w1.heap.size,2,none⟩=some (.int .i64 0):=by refine⟨?_,?_,?_⟩<;>(unfold World.cell?;rw[T2.out];rfl)
 have tf:∀j,w2.frozen? ⟨w1.heap.size,j,none⟩=false:=fun j=>by have:=T2.out;simp[World.frozen?,this]
 have aQ:w.heap.size≠w1.heap.size:=by omega
 have VV:w1.heap.size≠w.heap.size:=by omega
 by_cases h0:b=0
 ·subst h0
  have en:Hid (N=wd (bl s)):=by show _=_;rw[hn.out,if_pos rfl]
  go_wp2_with fail
  refine bodyPost_ret (v:=dO N) (by rw[en.out];simp[results,Tryz.results74,go_sem,dO,wd,ES.out, *]) rfl ⟨rfl,?_⟩
  (iterate 3(refine Below.setCell ?_ (by show w.heap.size<=w.heap.size;omega) _))
  exact B2.out
 have en:Hid (N=⟨2,bl s,0⟩):=by show _=_;rw[hn.out,if_neg h0]
 have b0:((b:Int)==0)=false:=by simp;omega
 go_wp2_with fail
 refine bodyPost_ret (v:=dO N) (by rw[en.out];simp[results,Tryz.results74,go_sem,dO,wd,ES.out, *]) rfl ⟨rfl,?_⟩
 (iterate 3(refine Below.setCell ?_ (by show w.heap.size<=w.heap.size;omega) _))
 refine Below.setCell B2.out (by show w.heap.size<=w1.heap.size;omega) _
theorem dA(o s:List UInt8)(v:Value)(l:List Tk)(C:Nat)(w:World)(h:OT w C v l)(hl:l.length<=1000000):Calls prog 77 #[.string (aj o),v,.string (aj s)] w fun e w'=>bE (fM o l s) w e w':=by
 obtain⟨a,c,rfl⟩:=h.shape;have H:=aa h;clear h;go_enter func77,ntmps77;go_wp2_with(go_at_call 73;refine ak.out ?_)
 refine ak.mk ?_;refine(eC (aj o) _).mono ?_;rintro e w1 ⟨rfl,ai⟩;have B1:=aa ai;have O1:=aa (bv w1 w.heap.size (mk o) ai.size);have H1:=aa ((H.out.below ai).below (ab (o:=.cells #[.int .i64 4,.string (aj o),.int .i64 0] 88) af));clear ai H;go_wp2_with(at_builtin;refine ak.out ?_)
 refine ak.mk ?_;refine aZ rfl (.tmp 9) (.tmp 10) rfl w.heap.size (.slice (some ⟨w1.heap.size,0,none⟩) 1 1) [mk o] rfl O1.out C (.slice a l.length c) l rfl H1.out (by simp;omega) (by simp;have:=B1.out.size;omega) ?_;intro ta tn tc w2 o2 b2;have B2:=aa ((B1.out.alloc (by have:=B1.out.size;omega) _).trans b2.out);go_wp2_with(go_at_call 73;refine ak.out ?_)
 refine ak.mk ?_;refine(eC (aj s) _).mono ?_;rintro e w3 ⟨rfl,ar⟩;have B3:=aa (ac B2.out ar);have O3:=aa ((o2.out.below ar).below (ab (o:=.cells #[.int .i64 4,.string (aj s),.int .i64 0] 88) af));have M3:=aa (bv w3 w.heap.size (mk s) B3.out.size);clear ar o2 b2 O1 H1;go_wp2_with(at_builtin;refine ak.out ?_)
 refine ak.mk ?_;refine aZ rfl (.tmp 11) (.tmp 14) rfl w.heap.size (.slice ta tn tc) ([mk o]++l) rfl O3.out w.heap.size (.slice (some ⟨w3.heap.size,0,none⟩) 1 1) [mk s] rfl M3.out (by simp;omega) (by simp;have:=B3.out.size;omega) ?_;intro tb tm td w4 o4 b4;have B4:=aa ((B3.out.alloc B3.out.size _).trans b4.out);go_wp2_with fail
 go_ret;refine⟨_,rfl,?_,B4.out⟩;have:=o4.out
 simpa [fM] using this
structure Gs(w:World):Prop where
 gg:Gg w
 gp:Gp w
 tb:lk w.heap.size w
theorem Gs.below{w W:World}(g:Gs w)(hb:Below w.heap.size w W):Gs W:=⟨g.gg.below hb g.gg.sz,g.gp.below hb,lk.up (g.tb.on hb) hb.size⟩
theorem Bs(h:Hd)(a1:Option Addr)(m1 d1:Nat)(a2:Option Addr)(m2 d2:Nat)(w:World)(g:Gs w)(hn:h.kind=3->eI h.neg h.dig h.exp=true):Calls prog 76 #[.agg (aP h (.slice a1 m1 d1) (.slice a2 m2 d2))] w fun e w'=>e=.returned (dO (tW h))/\Below w.heap.size w w':=by
 have eT:aj (bl h.text)=h.text:=dh _;have Z0:=aa (show ∀o,((w.alloc o).alloc (.cells #[.int .i64 0,.string ⟨#[]⟩,.int .i64 0] 88)).heap[w.heap.size+1]?=some (.cells #[.int .i64 0,.string ⟨#[]⟩,.int .i64 0] 88 (0,0))from fun o=>by have:=Array.getElem?_push_size (xs:=(w.alloc o).heap) (x:=Obj.cells #[.int .i64 0,.string ⟨#[]⟩,.int .i64 0] 88 (0,0));rw[show(w.alloc o).heap.size=w.heap.size+1 from World.size_alloc _ _]at this;exact this);have hp:=aa (fun W (hb:Below w.heap.size w W) (k:h.kind=3)=>Go.Proofs.YtcnfchblfcfimaaGreatDoor.print_any h.neg h.dig h.exp W (hn k) (g.below hb).tb);have G:=aa g;clear hn g;obtain⟨kd,fl,ng,dg,ex,bt,tx,nm⟩:=h;simp only at eT hp;have ET:=aa eT;clear eT;have fin:Hid (∀(t:Tk) W,Below w.heap.size w W->tW ⟨kd,fl,ng,dg,ex,bt,tx,nm⟩=t->Below w.heap.size w W/\tW ⟨kd,fl,ng,dg,ex,bt,tx,nm⟩=t):=fun t W a b=>⟨a,b⟩
 obtain⟨R,hR⟩:∃R,tW ⟨kd,fl,ng,dg,ex,bt,tx,nm⟩=R:=⟨_,rfl⟩
 rw[hR];have HR:=aa hR;clear hR fin;show Calls _ _ #[.agg #[.int .i64 kd,.bool fl,.bool ng,.string dg,.int .i64 ex,.int .u64 bt,.string tx,.slice a1 m1 d1,.slice a2 m2 d2]] _ _;have keyW:Hid (∀(W:World) (s:List UInt8),(W.heap[w.heap.size+1]?=some (.cells #[.int .i64 0,.string ⟨#[]⟩,.int .i64 0] 88 (0,0)))->(W.cell? ⟨w.heap.size+1,0,none⟩=some (.int .i64 0)/\W.cell? ⟨w.heap.size+1,1,none⟩=some (.string ⟨#[]⟩)/\W.cell? ⟨w.heap.size+1,2,none⟩=some (.int .i64 0))/\∀j,W.frozen? ⟨w.heap.size+1,j,none⟩=false):=fun W s k=>by refine⟨⟨?_,?_,?_⟩,fun j=>by simp[World.frozen?,k]⟩<;>(unfold World.cell?;rw[k];rfl)
 by_cases k5:kd=5
 ·subst k5
  have e2:Hid (R=⟨2,bl tx,0⟩):=by show _=_;rw[<-HR.out];rfl
  go_enter func76,ntmps76;go_wp2_with fail
  refine bodyPost_ret (v:=dO R) (by rw[e2.out];simp[results,Tryz.results76,go_sem,dO,ET.out, *]) rfl ⟨rfl,?_⟩
  first|(iterate 3(refine Below.setCell ?_ (by show w.heap.size<=w.heap.size+1;omega) _);exact ab (ab af))|exact ab (ab af)
 by_cases k3:kd=3
 ·subst k3
  have e2:Hid (R=⟨3,fF ng (bl dg) ex,0⟩):=by show _=_;rw[<-HR.out];rfl
  have Z1:=aa (Z0.out (.cells #[.int .i64 3,.bool fl,.bool ng,.string dg,.int .i64 ex,.int .u64 bt,.string tx,.slice a1 m1 d1,.slice a2 m2 d2] 31));clear Z0;go_enter func76,ntmps76;go_wp2_with(go_at_call 131;refine ak.out ?_)
  refine ak.mk ?_;refine(hp.out _ (ab (ab af)) (by first|rfl|trivial)).mono ?_;rintro e w1 ⟨rfl,ai⟩;have B1:=aa (ac (ab (ab af)) ai);have Z2:=aa ((ai.block (w.heap.size+1) (by simp)).trans Z1.out);obtain⟨k0,kf⟩:=keyW.out w1 [] Z2.out;clear ai Z1;go_wp2_with fail
  refine bodyPost_ret (v:=dO R) (by rw[e2.out];simp[results,Tryz.results76,go_sem,dO, *]) rfl ⟨rfl,?_⟩
  (iterate 3(refine Below.setCell ?_ (by show w.heap.size<=w.heap.size+1;omega) _))
  exact B1.out
 have fin:Hid (∀(s:List UInt8) (W:World),R=wd s->True):=fun _ _ _=>trivial;by_cases k1:kd=1
 ·subst k1
  have e2:Hid (R=wd [110,117,108,108]):=by show _=_;rw[<-HR.out];rfl
  have Z1:=aa (Z0.out (.cells #[.int .i64 1,.bool fl,.bool ng,.string dg,.int .i64 ex,.int .u64 bt,.string tx,.slice a1 m1 d1,.slice a2 m2 d2] 31));clear Z0 hp;go_enter func76,ntmps76;go_wp2_with(go_at_call 75;refine ak.out ?_)
  refine ak.mk ?_;refine(bu _ _).mono ?_;rintro e w1 ⟨rfl,ai⟩;have B1:=aa (ac (ab (ab af)) ai);have Z2:=aa ((ai.block (w.heap.size+1) (by simp)).trans Z1.out);obtain⟨k0,kf⟩:=keyW.out w1 [] Z2.out;clear ai Z1;go_wp2_with fail
  refine bodyPost_ret (v:=dO R) (by rw[e2.out];simp[results,Tryz.results76,go_sem,dO,wd,aj, *]) rfl ⟨rfl,?_⟩
  (iterate 3(refine Below.setCell ?_ (by show w.heap.size<=w.heap.size+1;omega) _))
  exact B1.out
 have Z1:=aa (Z0.out (.cells #[.int .i64 kd,.bool fl,.bool ng,.string dg,.int .i64 ex,.int .u64 bt,.string tx,.slice a1 m1 d1,.slice a2 m2 d2] 31));clear Z0 hp;have b5:((kd:Int)==5)=false:=by simp[k5]
 have b3:((kd:Int)==3)=false:=by simp[k3]
 have b1:((kd:Int)==1)=false:=by simp[k1]
 cases fl
 ·have e2:Hid (R=wd [102,97,108,115,101]):=by show _=_;rw[<-HR.out];simp[tW,k5,k3,k1]
  go_enter func76,ntmps76;go_wp2_with(go_at_call 75;refine ak.out ?_)
  refine ak.mk ?_;refine(bu _ _).mono ?_;rintro e w1 ⟨rfl,ai⟩;have B1:=aa (ac (ab (ab af)) ai);have Z2:=aa ((ai.block (w.heap.size+1) (by simp)).trans Z1.out);obtain⟨k0,kf⟩:=keyW.out w1 [] Z2.out;clear ai Z1;go_wp2_with fail
  refine bodyPost_ret (v:=dO R) (by rw[e2.out];simp[results,Tryz.results76,go_sem,dO,wd,aj, *]) rfl ⟨rfl,?_⟩
  (iterate 3(refine Below.setCell ?_ (by show w.heap.size<=w.heap.size+1;omega) _))
  exact B1.out
 have e2:Hid (R=wd [116,114,117,101]):=by show _=_;rw[<-HR.out];simp[tW,k5,k3,k1]
 go_enter func76,ntmps76;go_wp2_with(go_at_call 75;refine ak.out ?_)
 refine ak.mk ?_;refine(bu _ _).mono ?_;rintro e w1 ⟨rfl,ai⟩;have B1:=aa (ac (ab (ab af)) ai);have Z2:=aa ((ai.block (w.heap.size+1) (by simp)).trans Z1.out);obtain⟨k0,kf⟩:=keyW.out w1 [] Z2.out;clear ai Z1;go_wp2_with fail
 refine bodyPost_ret (v:=dO R) (by rw[e2.out];simp[results,Tryz.results76,go_sem,dO,wd,aj, *]) rfl ⟨rfl,?_⟩
 (iterate 3(refine Below.setCell ?_ (by show w.heap.size<=w.heap.size+1;omega) _))
 exact B1.out
def IV:(n:Nat)->ET n->Prop
 |0,_=>True
 |n+1,x=>1<=x.1.op/\x.1.op<=12/\(x.1.op=4->x.2.length=1)/\(x.1.op=3\/x.1.op=6->x.1.names.length=x.2.length)/\x.1.name.size<=60000/\(∀s∈x.1.names,s.size<=60000)/\((aI x.1.vn x.1.val).kind=3->eI (aI x.1.vn x.1.val).neg (aI x.1.vn x.1.val).dig (aI x.1.vn x.1.val).exp=true)/\x.2.length<=100000/\∀y∈x.2,IV n y
def tK(n:Nat):Prop:=∀(x:ET n) (q:Sl) (w:World),RE n w x q->IV n x->(bp n x).length<=1000000->Gs w->Calls prog 35 #[.agg (ecl (ehd n x) q)] w fun e w'=>bE (bp n x) w e w'
theorem dY(c:Tk)(L:List (List Tk))(k:Nat)(h:k<L.length):aU c (L.take (k+1))=(if k=0 then L[k] else aU c (L.take k)++c::L[k]):=by
 rw[List.take_succ_eq_append_getElem h,ul];by_cases h0:k=0
 ·subst h0;simp
 rw[if_neg (by intro e;have:=congrArg List.length e;rw[List.length_take,List.length_nil]at this;omega),if_neg h0]
theorem jh(c:Tk):∀(L:List (List Tk)) (k:Nat),(aU c (L.take k)).length<=(aU c L).length
 | [],k=>by simp[aU]
 | [a],k=>by
  cases k with
  |zero=>simp[aU]
  |succ k=>simp
 |a::b::r,k=>by
  cases k with
  |zero=>simp[aU]
  |succ k=>
   cases k with
   |zero=>simp[aU]
   |succ k=>
    have:=jh c (b::r) (k+1);simp only[List.take_succ_cons]at this ⊢;simp only[aU,List.length_append,List.length_cons];omega
theorem mK(c:Tk)(L:List (List Tk))(k:Nat)(h:k<L.length):L[k].length<=(aU c L).length:=by
 have h1:=dY c L k h;have h2:=jh c L (k+1);rw[h1]at h2
 split at h2
 ·exact h2
 simp only[List.length_append,List.length_cons]at h2;omega
theorem sE(m:List UInt8)(ns:List ByteArray)(ks:List (List Tk))(h:ns.length=ks.length):(mY m ns ks).length=ns.length:=by simp[mY,h]
theorem sF(m:List UInt8)(ns:List ByteArray)(ks:List (List Tk))(k:Nat)(h1:k<ns.length)(h2:k<ks.length)(h:k<(mY m ns ks).length):(mY m ns ks)[k]=de (bl ns[k])::mk m::ks[k]:=by simp[mY]
theorem mU{n:Nat}(ih:tK n)(hP:aW)(m:List UInt8)(nv v:Value)(nms:List ByteArray)(l:List (ET n))(w:World)(g:Gs w)(hn:NL w nv nms)(hl:EL n w v l)(aL:nms.length=l.length)(hs:∀s∈nms,s.size<=60000)(hp:∀y∈l,IV n y)(hz:(io m nms (l.map (bp n))).length<=1000000)(nT:l.length<=100000):Calls prog 78 #[nv,.string (aj m),v,.func (.func 35) #[] #[]] w fun e w'=>bE (io m nms (l.map (bp n))) w e w':=by
 obtain⟨na,nc,rfl,cm,df⟩:=hn.len;obtain⟨la,lc,rfl,aJ,bq⟩:=hl.len;obtain⟨I,hI⟩:∃I,mY m nms (l.map (bp n))=I:=⟨_,rfl⟩
 have zz:I.length=nms.length:=by rw[<-hI];exact sE _ _ _ (by simp[aL])
 have vr:Hid (∀k (h1:k<nms.length) (h2:k<l.length) (h:k<I.length),I[k]=de (bl nms[k])::mk m::bp n l[k]):=fun k h1 h2 h=>by subst hI;rw[sF m nms _ k h1 (by simpa using h2)];simp
 have hN:io m nms (l.map (bp n))=fM [123] (aU (mk [44]) I) [125]:=by rw[<-hI];rfl
 rw[hN]at hz ⊢;have eR:Hid ((aU (mk [44]) I).length<=1000000):=by show _<=_;simp only[fM,List.length_cons,List.length_append]at hz;omega
 obtain⟨N,gl⟩:∃N,nms.length=N:=⟨_,rfl⟩
 have HN:=aa hn;have HL:=aa hl;have HG:=aa g;have HS:=aa hs;have HP:=aa hp;have IH:=aa ih;have HPO:=aa hP;have Ri:N<=100000:=by omega
 have eB:=aa (zz.trans gl);have sP:=aa (aL.symm.trans gl);have Ez:=aa gl;rw[gl];rw[aL.symm.trans gl];clear hn hl g hs hp ih hP hI hN hz zz aL cm df aJ bq nT;clear gl;go_enter func78,ntmps78
 go_wp2_with fail
 go_loopw [9,10,11,14] (fun t _ _ i W=>∃k:Nat,i=.int .i64 k/\k<=N/\Hid (OT W w.heap.size t (aU (mk [44]) (I.take k))/\Below w.heap.size w W)) (fun _ _ _ i _=>N-(intOf i).toNat)
 case atStart=>exact⟨0,rfl,Nat.zero_le _,by simpa [aU] using OT.nil _ _,af⟩
 case round=>
  obtain⟨k,rfl,hk,H⟩:=hrel;have B0:=aa H.out.2;have O0:=aa H.out.1;obtain⟨ta,tc,rfl⟩:=H.out.1.shape;have dP:Hid ((aU (mk [44]) (I.take k)).length<=1000000):=by show _<=_;exact Nat.le_trans (jh _ _ _) eR.out
  clear H;by_cases ix:k<N
  ·have bF:(k:Int)<(N:Int):=by omega
   have aE:k<l.length:=by rw[sP.out];exact ix
   have ri:k<nms.length:=by rw[Ez.out];exact ix
   obtain⟨nb,no,nc9,aQ,BZ,Ey,Ew,hcell⟩:=HN.out.at k ri;have pR:=Value.slice.inj aQ;obtain⟨rfl,_,rfl⟩:=pR;clear aQ;have hcell2:=(World.cell?_of_block (w:=w) (a:=⟨nb,no+k,none⟩) (B0.out.block nb BZ)).trans hcell;have oM:Hid ((bp n (l[k]'(aE))).length<=1000000):=by have h1:=mK (mk [44]) I k (by rw[eB.out];exact ix);rw[vr.out k ri aE (by rw[eB.out];exact ix)]at h1;have:=eR.out;show _<=_;simp only[List.length_cons]at h1;omega
   have HNB:=aa BZ;have HCL:=aa hcell;clear hcell BZ Ey Ew;obtain⟨s0,vP⟩:∃s0,nms[k]'(ri)=s0:=⟨_,rfl⟩
   have Qm:=aa vP;rw[vP]at hcell2;by_cases eM:k=0
   ·have nj:¬(0:Int)<(k:Int):=by omega
    have ek:aU (mk [44]) (I.take k)=[]:=by rw[eM];simp[aU]
    have e0:(aU (mk [44]) (I.take k)).length=0:=by rw[ek];rfl
    rw[ek]at O0;have O1:Hid (OT wr w.heap.size (.slice ta 0 tc) ([]:List Tk)):=O0;have hlenP:Hid ((([]:List Tk)++[de (bl s0),mk m]).length<=1000000):=by show _<=_;simp
    rw[e0];have HK0:=aa eM;clear O0 dP e0 ek eM;have GA:=aa (HG.out.below B0.out);have xt:=aa (gC HPO.out nms[k] _ GA.out.gg (HS.out _ (List.getElem_mem _)));rw[vP]at xt;go_wp2_with(go_at_call 74;refine ak.out ?_)
    refine ak.mk ?_;refine xt.out.mono ?_;rintro e wa ⟨rfl,xF⟩;have BA:=aa (ac B0.out xF);have OA:=aa (O1.out.below xF);clear xF xt;unfold dO;go_wp2_with(go_at_call 73;refine ak.out ?_)
    refine ak.mk ?_;refine(eC _ _).mono ?_;rintro e wb ⟨rfl,gd⟩;have BB:=aa (ac BA.out gd);have OB:=aa ((OA.out.below gd).below (ab (o:=.cells #[.int .i64 (de (bl s0)).w,.string (aj (de (bl s0)).s),.int .i64 (de (bl s0)).p,.int .i64 4,.string (aj m),.int .i64 0] 88) af));have NB:=aa (fg wb w.heap.size (de (bl s0)) (mk m) BB.out.size);clear gd OA BA;go_wp2_with(at_builtin;refine ak.out ?_)
    refine ak.mk ?_;refine aZ rfl (.tmp 25) (.tmp 30) rfl w.heap.size (.slice ta 0 tc) ([]:List Tk) rfl OB.out w.heap.size (.slice (some ⟨wb.heap.size,0,none⟩) 2 2) [de (bl s0),mk m] rfl NB.out (by have:=hlenP.out;simp only[List.length_append,List.length_cons,List.length_nil]at this ⊢;omega) (by simp only[World.size_alloc];have:=BB.out.size;omega) ?_;intro va vn vc wc oc bc;have BC:=aa ((BB.out.alloc BB.out.size _).trans bc.out);have OC:=aa oc.out;clear oc bc OB NB BB;obtain⟨lb,lo,lc9,cd,ic,lm,ni,q,bT,bf⟩:=HL.out.at k (by rw[sP.out];exact ix);have sO:=Value.slice.inj cd;obtain⟨rfl,_,rfl⟩:=sO;clear cd;obtain⟨b1,b2,b3,b4,b5,b6,b7,b8,b9,b10,b11,b12,aK⟩:=bf.shape;subst aK;have q0:=bJ (am bT BC.out ic);have hcall:=aa (IH.out (l[k]'(aE)) _ wc (bf.below BC.out) (HP.out _ (List.getElem_mem _)) oM.out (HG.out.below BC.out));clear bT bf ic;unfold ecl at hcall;unfold bE at hcall;go_wp2_with(go_at_call 35;refine ak.out ?_)
    refine ak.mk ?_;refine hcall.out.mono ?_;rintro e wd1 ⟨v2,rfl,iz,aq⟩;have BD:=aa (ac BC.out aq);have OD:=aa (OC.out.below aq);have O2:=aa iz;clear aq iz hcall q0 OC;go_wp2_with(at_builtin;refine ak.out ?_)
    refine ak.mk ?_;refine aZ rfl (.tmp 32) (.tmp 38) rfl w.heap.size (.slice va vn vc) (([]:List Tk)++[de (bl s0),mk m]) rfl OD.out wc.heap.size v2 (bp n (l[k]'(aE))) rfl O2.out (by have h1:=hlenP.out;have h2:=oM.out;simp only[List.length_append,List.length_cons,List.length_nil]at h1 h2 ⊢;omega) BD.out.size ?_;intro ua un uc we oe be;have BE:=aa (BD.out.trans be.out);go_wp2_with fail
    refine⟨⟨k+1,by go_num,by omega,?_,BE.out⟩,by simp[intOf];omega⟩;rw[dY _ I k (by rw[eB.out];exact ix),if_pos HK0.out,vr.out k (by rw[Ez.out];exact ix) aE (by rw[eB.out];exact ix),Qm.out];have:=oe.out
    simpa using this
   have nj:(0:Int)<(k:Int):=by omega
   obtain⟨T0,EY⟩:∃T0,aU (mk [44]) (I.take k)=T0:=⟨_,rfl⟩
   have HT0:=aa EY;rw[EY]at O0 dP ⊢;have hlenP:Hid (((T0++[mk [44]])++[de (bl s0),mk m]).length<=1000005):=by show _<=_;have:=dP.out;simp only[List.length_append,List.length_cons,List.length_nil];omega
   clear EY;go_wp2_with(go_at_call 73;refine ak.out ?_)
   refine ak.mk ?_;refine(eC _ _).mono ?_;rintro e wm ⟨rfl,Bd⟩;have BM:=aa (ac B0.out Bd);have OM:=aa ((O0.out.below Bd).below (ab (o:=.cells #[.int .i64 4,.string ⟨#[44]⟩,.int .i64 0] 88) af));have NM:=aa (bv wm w.heap.size (mk [44]) BM.out.size);clear Bd O0;go_wp2_with(at_builtin;refine ak.out ?_)
   refine ak.mk ?_;refine aZ rfl (.tmp 21) (.tmp 23) rfl w.heap.size (.slice ta T0.length tc) T0 rfl OM.out w.heap.size (.slice (some ⟨wm.heap.size,0,none⟩) 1 1) [mk [44]] rfl NM.out (by have:=dP.out;simp only[List.length_cons,List.length_nil];omega) (by simp only[World.size_alloc];have:=BM.out.size;omega) ?_;intro sa sn sc ws os bs;have BS:=aa ((BM.out.alloc BM.out.size _).trans bs.out);have O1:=aa os.out;clear os bs OM NM BM B0;have hcell3:=(World.cell?_of_block (w:=w) (a:=⟨nb,no+k,none⟩) (BS.out.block nb HNB.out)).trans HCL.out;have GA:=aa (HG.out.below BS.out);have xt:=aa (gC HPO.out nms[k] _ GA.out.gg (HS.out _ (List.getElem_mem _)));rw[vP]at xt;go_wp2_with(go_at_call 74;refine ak.out ?_)
   refine ak.mk ?_;refine xt.out.mono ?_;rintro e wa ⟨rfl,xF⟩;have BA:=aa (ac BS.out xF);have OA:=aa (O1.out.below xF);clear xF xt;unfold dO;go_wp2_with(go_at_call 73;refine ak.out ?_)
   refine ak.mk ?_;refine(eC _ _).mono ?_;rintro e wb ⟨rfl,gd⟩;have BB:=aa (ac BA.out gd);have OB:=aa ((OA.out.below gd).below (ab (o:=.cells #[.int .i64 (de (bl s0)).w,.string (aj (de (bl s0)).s),.int .i64 (de (bl s0)).p,.int .i64 4,.string (aj m),.int .i64 0] 88) af));have NB:=aa (fg wb w.heap.size (de (bl s0)) (mk m) BB.out.size);clear gd OA BA;go_wp2_with(at_builtin;refine ak.out ?_)
   refine ak.mk ?_;refine aZ rfl (.tmp 25) (.tmp 30) rfl w.heap.size (.slice sa sn sc) (T0++[mk [44]]) rfl OB.out w.heap.size (.slice (some ⟨wb.heap.size,0,none⟩) 2 2) [de (bl s0),mk m] rfl NB.out (by have:=hlenP.out;simp only[List.length_append,List.length_cons,List.length_nil]at this ⊢;omega) (by simp only[World.size_alloc];have:=BB.out.size;omega) ?_;intro va vn vc wc oc bc;have BC:=aa ((BB.out.alloc BB.out.size _).trans bc.out);have OC:=aa oc.out;clear oc bc OB NB BB;obtain⟨lb,lo,lc9,cd,ic,lm,ni,q,bT,bf⟩:=HL.out.at k (by rw[sP.out];exact ix);have sO:=Value.slice.inj cd;obtain⟨rfl,_,rfl⟩:=sO;clear cd;obtain⟨b1,b2,b3,b4,b5,b6,b7,b8,b9,b10,b11,b12,aK⟩:=bf.shape;subst aK;have q0:=bJ (am bT BC.out ic);have hcall:=aa (IH.out (l[k]'(aE)) _ wc (bf.below BC.out) (HP.out _ (List.getElem_mem _)) oM.out (HG.out.below BC.out));clear bT bf ic;unfold ecl at hcall;unfold bE at hcall;go_wp2_with(go_at_call 35;refine ak.out ?_)
   refine ak.mk ?_;refine hcall.out.mono ?_;rintro e wd1 ⟨v2,rfl,iz,aq⟩;have BD:=aa (ac BC.out aq);have OD:=aa (OC.out.below aq);have O2:=aa iz;clear aq iz hcall q0 OC;go_wp2_with(at_builtin;refine ak.out ?_)
   refine ak.mk ?_;refine aZ rfl (.tmp 32) (.tmp 38) rfl w.heap.size (.slice va vn vc) ((T0++[mk [44]])++[de (bl s0),mk m]) rfl OD.out wc.heap.size v2 (bp n (l[k]'(aE))) rfl O2.out (by have h1:=hlenP.out;have h2:=oM.out;simp only[List.length_append,List.length_cons,List.length_nil]at h1 h2 ⊢;omega) BD.out.size ?_;intro ua un uc we oe be;have BE:=aa (BD.out.trans be.out);go_wp2_with fail
   refine⟨⟨k+1,by go_num,by omega,?_,BE.out⟩,by simp[intOf];omega⟩;rw[dY _ I k (by rw[eB.out];exact ix),if_neg eM,vr.out k (by rw[Ez.out];exact ix) aE (by rw[eB.out];exact ix),Qm.out,HT0.out];have:=oe.out
   simpa using this
  have bF:¬(k:Int)<(N:Int):=by omega
  have EH:k=N:=by omega
  subst EH;have OF:Hid (OT wr w.heap.size (.slice ta (aU (mk [44]) (I.take k)).length tc) (aU (mk [44]) I)):=by have h:=O0.out;have e:I.take k=I:=List.take_of_length_le (by rw[eB.out];exact Nat.le_refl _);show OT _ _ _ _;rw[e]at h ⊢;exact h
  have sR:=aa (dA [123] [125] _ _ _ wr OF.out eR.out);unfold bE at sR;clear OF O0;go_wp2_with(go_at_call 77;refine ak.out ?_)
  refine ak.mk ?_;refine sR.out.mono ?_;rintro e w9 ⟨v9,rfl,Qn,qa⟩;have H9:=aa Qn;have B9:=aa (ac B0.out qa);have Js:=B0.out.size;clear Qn qa sR;go_wp2_with fail
  go_ret;exact⟨_,rfl,H9.out.low Js,B9.out⟩
def jV(n:Nat)(y:ET n):List Tk:=if (ehd n y).op=12 then fM [40] (bp n y) [41] else bp n y
theorem uE{n:Nat}(ih:tK n)(v:Value)(l:List (ET n))(w:World)(g:Gs w)(hl:EL n w v l)(hp:∀y∈l,IV n y)(hz:(aU (mk [59]) (l.map (jV n))).length<=1000000)(nT:l.length<=100000):Calls prog 79 #[v] w fun e w'=>bE (aU (mk [59]) (l.map (jV n))) w e w':=by
 obtain⟨la,lc,rfl,aJ,bq⟩:=hl.len;obtain⟨I,hI⟩:∃I,l.map (jV n)=I:=⟨_,rfl⟩
 have zz:I.length=l.length:=by rw[<-hI];simp
 have vr:Hid (∀k (h2:k<l.length) (h:k<I.length),I[k]=jV n l[k]):=fun k h2 h=>by subst hI;simp
 rw[hI]at hz ⊢;have eR:=aa hz;obtain⟨N,gl⟩:∃N,l.length=N:=⟨_,rfl⟩
 have HL:=aa hl;have HG:=aa g;have HP:=aa hp;have IH:=aa ih;have Ri:N<=100000:=by omega
 have eB:=aa (zz.trans gl);have sP:=aa gl;rw[gl];clear hl g hp ih hI hz zz aJ bq nT gl;go_enter func79,ntmps79;go_wp2_with fail
 go_loopw [3,4,5,6,9] (fun t _ _ _ i W=>∃k:Nat,i=.int .i64 k/\k<=N/\Hid (OT W w.heap.size t (aU (mk [59]) (I.take k))/\Below w.heap.size w W)) (fun _ _ _ _ i _=>N-(intOf i).toNat)
 case atStart=>exact⟨0,rfl,Nat.zero_le _,by simpa [aU] using OT.nil _ _,af⟩
 case round=>
  obtain⟨k,rfl,hk,H⟩:=hrel;have B0:=aa H.out.2;have O0:=aa H.out.1;obtain⟨ta,tc,rfl⟩:=H.out.1.shape;have dP:Hid ((aU (mk [59]) (I.take k)).length<=1000000):=by show _<=_;exact Nat.le_trans (jh _ _ _) eR.out
  clear H;by_cases ix:k<N
  ·have bF:(k:Int)<(N:Int):=by omega
   have aE:k<l.length:=by rw[sP.out];exact ix
   have oM:Hid ((jV n (l[k]'(aE))).length<=1000000):=by have h1:=mK (mk [59]) I k (by rw[eB.out];exact ix);rw[vr.out k aE (by rw[eB.out];exact ix)]at h1;have:=eR.out;show _<=_;omega
   have EA:Hid ((bp n (l[k]'(aE))).length<=1000000):=by
    have h1:=oM.out;show _<=_;unfold jV at h1
    split at h1
    ·simp only[fM,List.length_cons,List.length_append]at h1;omega
    exact h1
   obtain⟨lb,lo,lc9,cd,ic,lm,ni,q,bT,bf⟩:=HL.out.at k aE;have sO:=Value.slice.inj cd;obtain⟨rfl,_,rfl⟩:=sO;clear cd;obtain⟨b1,b2,b3,b4,b5,b6,b7,b8,b9,b10,b11,b12,aK⟩:=bf.shape;subst aK;have q0:=bJ (am bT B0.out ic);have X0:=aa (bC wr (ehd n l[k]) ⟨.slice b1 b2 b3,.slice b4 b5 b6,.slice b7 b8 b9,.slice b10 b11 b12⟩);have hcall:=aa (fun W (hb:Below w.heap.size w W)=>IH.out (l[k]'(aE)) _ W (bf.below hb) (HP.out _ (List.getElem_mem _)) EA.out (HG.out.below hb));have Eo:Hid (jV n (l[k]'(aE))=if (ehd n (l[k]'(aE))).op=12 then fM [40] (bp n (l[k]'(aE))) [41] else bp n (l[k]'(aE))):=rfl;have Em:=B0.out.size;have OW:=aa (World.ownsRow.lt O0.out);have O0:=aa (O0.out.below (ab (o:=.cells (ecl (ehd n l[k]) ⟨.slice b1 b2 b3,.slice b4 b5 b6,.slice b7 b8 b9,.slice b10 b11 b12⟩) 33) af));rename_i O00;have B0':=aa (ab (o:=.cells (ecl (ehd n l[k]) ⟨.slice b1 b2 b3,.slice b4 b5 b6,.slice b7 b8 b9,.slice b10 b11 b12⟩) 33) (Below.refl wr.heap.size wr));have B1:=aa (ac B0.out B0'.out);clear bT bf ic O00 B0';obtain⟨h,hh⟩:∃h,ehd n (l[k]'(aE))=h:=⟨_,rfl⟩
   have HH:=aa hh;rw[hh]at X0 q0 hcall Eo O0 B1;unfold bE at hcall;unfold ecl at X0 hcall O0 B1
   dsimp only at X0 hcall O0 B1
   clear hh;by_cases eM:k=0
   ·have nj:¬(0:Int)<(k:Int):=by omega
    have ek:aU (mk [59]) (I.take k)=[]:=by rw[eM];simp[aU]
    have e0:(aU (mk [59]) (I.take k)).length=0:=by rw[ek];rfl
    rw[ek]at O0;have O1:=O0;have hlenP:Hid ((([]:List Tk)).length<=1000005):=by show _<=_;simp
    have HK0:=aa eM;rw[e0];rw[show([]:List Tk).length=0 from rfl]at O1;clear O0 dP e0 ek eM;go_wp2_with(go_at_call 35;refine ak.out ?_)
    refine ak.mk ?_;refine(hcall.out _ B1.out).mono ?_;rintro e wd1 ⟨v2,rfl,iz,aq⟩;have BD:=aa (ac B1.out aq);have OD:=aa (O1.out.below aq);have XD:=aa (X0.out.below aq);have O2:=aa iz;have x0:=XD.out.cells;have zb:=B1.out.size;clear aq iz hcall;by_cases iK:h.op=12
    ·have es:Hid (jV n (l[k]'(aE))=fM [40] (bp n (l[k]'(aE))) [41]):=by show _=_;rw[Eo.out,if_pos iK]
     rw[iK]at x0;have H12:=aa iK;have sR:=aa (dA [40] [41] _ _ _ wd1 O2.out EA.out);unfold bE at sR;clear iK;go_wp2_with(go_at_call 77;refine ak.out ?_)
     refine ak.mk ?_;refine sR.out.mono ?_;rintro e wf ⟨v3,rfl,kK,ar⟩;have BF:=aa (ac BD.out ar);have OF:=aa (OD.out.below ar);have O3:=aa kK;clear ar kK sR O2 OD x0 XD;go_wp2_with(at_builtin;refine ak.out ?_)
     refine ak.mk ?_;refine aZ rfl (.tmp 27) (.tmp 28) rfl w.heap.size (.slice ta 0 tc) ([]:List Tk) rfl OF.out wd1.heap.size v3 (fM [40] (bp n (l[k]'(aE))) [41]) rfl O3.out (by have h1:=hlenP.out;have h2:=oM.out;rw[es.out]at h2;omega) BF.out.size ?_;intro ua un uc we oe be;have BE:=aa (BF.out.trans be.out);go_wp2_with fail
     refine⟨⟨k+1,by go_num,by omega,?_,BE.out⟩,by simp[intOf];omega⟩;rw[dY _ I k (by rw[eB.out];exact ix),if_pos HK0.out,vr.out k aE (by rw[eB.out];exact ix),es.out];have:=oe.out
     simpa using this
    have es:Hid (jV n (l[k]'(aE))=bp n (l[k]'(aE))):=by show _=_;rw[Eo.out,if_neg iK]
    have b12:(h.op==12)=false:=by simp[iK]
    clear iK;go_wp2_with(at_builtin;refine ak.out ?_)
    refine ak.mk ?_;refine aZ rfl (.tmp 27) (.tmp 28) rfl w.heap.size (.slice ta 0 tc) ([]:List Tk) rfl OD.out _ v2 (bp n (l[k]'(aE))) rfl O2.out (by have h1:=hlenP.out;have h2:=EA.out;omega) BD.out.size ?_;intro ua un uc we oe be;have BE:=aa (BD.out.trans be.out);go_wp2_with fail
    refine⟨⟨k+1,by go_num,by omega,?_,BE.out⟩,by simp[intOf];omega⟩;rw[dY _ I k (by rw[eB.out];exact ix),if_pos HK0.out,vr.out k aE (by rw[eB.out];exact ix),es.out];have:=oe.out
    simpa using this
   have nj:(0:Int)<(k:Int):=by omega
   obtain⟨T0,EY⟩:∃T0,aU (mk [59]) (I.take k)=T0:=⟨_,rfl⟩
   have HT0:=aa EY;rw[EY]at O0 dP OW ⊢;have hlenP:Hid ((T0++[mk [59]]).length<=1000005):=by show _<=_;have:=dP.out;simp only[List.length_append,List.length_cons,List.length_nil];omega
   clear EY;go_wp2_with(go_at_call 73;refine ak.out ?_)
   refine ak.mk ?_;refine(eC _ _).mono ?_;rintro e wm ⟨rfl,Bd⟩;have BM:=aa (ac B1.out Bd);have XM:=aa ((X0.out.below Bd).below (ab (o:=.cells #[.int .i64 4,.string ⟨#[59]⟩,.int .i64 0] 88) af));have OM:=aa ((O0.out.below Bd).below (ab (o:=.cells #[.int .i64 4,.string ⟨#[59]⟩,.int .i64 0] 88) af));have NM:=aa (bv wm w.heap.size (mk [59]) BM.out.size);have Vn:=Bd.size;simp only[World.size_alloc]at Vn;clear Bd O0 X0;go_wp2_with(at_builtin;refine ak.out ?_)
   refine ak.mk ?_;refine nu rfl (.tmp 16) (.tmp 18) rfl w.heap.size (.slice ta T0.length tc) T0 rfl OM.out w.heap.size (.slice (some ⟨wm.heap.size,0,none⟩) 1 1) [mk [59]] rfl NM.out (by have:=dP.out;simp only[List.length_cons,List.length_nil];omega) (by simp only[World.size_alloc];have:=BM.out.size;omega) ?_;intro sa sn sc ws os bs gs;have BS:=aa ((BM.out.alloc BM.out.size _).trans bs.out);have O1:=aa os.out;have XS:Hid (Ex ws wr.heap.size h ⟨.slice b1 b2 b3,.slice b4 b5 b6,.slice b7 b8 b9,.slice b10 b11 b12⟩):=⟨(gs.out wr.heap.size (by simp only[World.size_alloc];omega) (fun e=>by have:=(OW.out _ e).2;omega)).trans XM.out.at_⟩
   have xk:=XS.out.cells;clear os bs OM NM BM XM gs;go_wp2_with(go_at_call 35;refine ak.out ?_)
   refine ak.mk ?_;refine(hcall.out _ BS.out).mono ?_;rintro e wd1 ⟨v2,rfl,iz,aq⟩;have BD:=aa (ac BS.out aq);have OD:=aa (O1.out.below aq);have XD:=aa (XS.out.below aq);have O2:=aa iz;have x0:=XD.out.cells;have zb:=BS.out.size;clear aq iz hcall;by_cases iK:h.op=12
   ·have es:Hid (jV n (l[k]'(aE))=fM [40] (bp n (l[k]'(aE))) [41]):=by show _=_;rw[Eo.out,if_pos iK]
    rw[iK]at x0;have H12:=aa iK;have sR:=aa (dA [40] [41] _ _ _ wd1 O2.out EA.out);unfold bE at sR;clear iK;go_wp2_with(go_at_call 77;refine ak.out ?_)
    refine ak.mk ?_;refine sR.out.mono ?_;rintro e wf ⟨v3,rfl,kK,ar⟩;have BF:=aa (ac BD.out ar);have OF:=aa (OD.out.below ar);have O3:=aa kK;clear ar kK sR O2 OD x0 XD;go_wp2_with(at_builtin;refine ak.out ?_)
    refine ak.mk ?_;refine aZ rfl (.tmp 27) (.tmp 28) rfl w.heap.size (.slice sa sn sc) (T0++[mk [59]]) rfl OF.out wd1.heap.size v3 (fM [40] (bp n (l[k]'(aE))) [41]) rfl O3.out (by have h1:=hlenP.out;have h2:=oM.out;rw[es.out]at h2;omega) BF.out.size ?_;intro ua un uc we oe be;have BE:=aa (BF.out.trans be.out);go_wp2_with fail
    refine⟨⟨k+1,by go_num,by omega,?_,BE.out⟩,by simp[intOf];omega⟩;rw[dY _ I k (by rw[eB.out];exact ix),if_neg eM,vr.out k aE (by rw[eB.out];exact ix),es.out,HT0.out];have:=oe.out
    simpa using this
   have es:Hid (jV n (l[k]'(aE))=bp n (l[k]'(aE))):=by show _=_;rw[Eo.out,if_neg iK]
   have b12:(h.op==12)=false:=by simp[iK]
   clear iK;go_wp2_with(at_builtin;refine ak.out ?_)
   refine ak.mk ?_;refine aZ rfl (.tmp 27) (.tmp 28) rfl w.heap.size (.slice sa sn sc) (T0++[mk [59]]) rfl OD.out _ v2 (bp n (l[k]'(aE))) rfl O2.out (by have h1:=hlenP.out;have h2:=EA.out;omega) BD.out.size ?_;intro ua un uc we oe be;have BE:=aa (BD.out.trans be.out);go_wp2_with fail
   refine⟨⟨k+1,by go_num,by omega,?_,BE.out⟩,by simp[intOf];omega⟩;rw[dY _ I k (by rw[eB.out];exact ix),if_neg eM,vr.out k aE (by rw[eB.out];exact ix),es.out,HT0.out];have:=oe.out
   simpa using this
  have bF:¬(k:Int)<(N:Int):=by omega
  have EH:k=N:=by omega
  subst EH;have e:I.take k=I:=List.take_of_length_le (by rw[eB.out];exact Nat.le_refl _);rw[e]at O0 ⊢;go_wp2_with fail
  go_ret;exact⟨_,rfl,O0.out,B0.out⟩
theorem oA{W:World}{i:Nat}{h:Eh}{q:Sl}(k:Ex W i h q):W.cell? ⟨i,1,none⟩=some (.string h.name):=k.cells.2.1
theorem zD{W:World}{i:Nat}{h:Eh}{q:Sl}(k:Ex W i h q):W.cell? ⟨i,4,none⟩=some (.int .i64 (aI h.vn h.val).kind)/\W.cell? ⟨i,5,none⟩=some (.bool (aI h.vn h.val).flag)/\W.cell? ⟨i,6,none⟩=some (.bool (aI h.vn h.val).neg)/\W.cell? ⟨i,7,none⟩=some (.string (aI h.vn h.val).dig)/\W.cell? ⟨i,8,none⟩=some (.int .i64 (aI h.vn h.val).exp)/\W.cell? ⟨i,9,none⟩=some (.int .u64 (aI h.vn h.val).bits)/\W.cell? ⟨i,10,none⟩=some (.string (aI h.vn h.val).text)/\W.cell? ⟨i,11,none⟩=some q.vs/\W.cell? ⟨i,12,none⟩=some q.vl:=k.cells.2.2.2.2
theorem zE{W:World}{i:Nat}{h:Eh}{q:Sl}(k:Ex W i h q):W.cell? ⟨i,2,none⟩=some q.ns/\W.cell? ⟨i,3,none⟩=some q.ls:=⟨k.cells.2.2.1,k.cells.2.2.2.1⟩
theorem Ex.dr{W:World}{i:Nat}{h:Eh}{q:Sl}(k:Ex W i h q):Ex W.drew i h q:=⟨k.at_⟩
theorem Ex.al{W:World}{i:Nat}{h:Eh}{q:Sl}{o:Obj}(k:Ex W i h q):Ex (W.alloc o) i h q:=k.below (ab af)
theorem fT{ops:Array Oper}{o:Oper}{a:Act}{W:World}{K:Act->World->Prop}{Q:Exit->Act->World->Prop}{E:Prop}(hgd:o.guard=none)(s x:Operand)(ho:o.op=.call {callee:=.builtin .append,args:=#[s,x],argTypes:=#[59,59]})
  (B:Nat) (v:Value) (l:List Tk) (hs:a.eval s=v) (bz:OT W B v l) (C:Nat) (u:Value) (m:List Tk) (hx:a.eval x=u) (hu:OT W C u m) (hk:l.length+m.length<=3000000) (hB:B<=W.heap.size)
  (h:∀ta tn tc w',Hid (OT w' B (.slice ta tn tc) (l++m))->Hid (Below B W w')->K (a.put o.dst (.slice ta tn tc)) w') :
  if Region.wanted o (yielded ops a.tmps)=true then Oper.wp prog o a W K Q else E:=by
 have hw:Region.wanted o (yielded ops a.tmps)=true:=by simp[Region.wanted,hgd]
 rw[if_pos hw];obtain⟨i0,hi,fY,gD,eR⟩:=info_parts zi;rcases id hu.2 with⟨hu0,e0⟩|⟨g,cap,cur,hu0,_⟩
 ·have hf:m=[]:=List.eq_nil_of_length_eq_zero (by rw[<-e0])
  subst hf;have hr:=run_append_owned_none (P:=prog) W B 59 o.type 88 i0 3 Tryz.underlying59 hi v l.length (gV l) bz;rw[hu0]at hx;unfold Oper.wp execOp;simp only[ho,resolve,invoke,builtin,Sem.run_bind,Sem.run_pure,Result.andThen_ok,List.map_toArray,List.map_cons,List.map_nil,hs,hx,hr];obtain⟨ta,tc,rfl⟩:=bz.shape;exact h ta _ tc W (show OT _ _ _ _ by simpa using bz) af
 have xm:=hu;unfold OT at xm;rw[hu0]at hx xm;obtain⟨v',w',hr,h1,h2,h3,h4⟩:=run_append_own_at (P:=prog) W B 59 o.type 88 i0 _ 3 32 Tryz.underlying59 hi fY gD eR rfl (by decide) v l.length (gV l) bz ⟨g,0,none⟩ m.length cap (gV m) (by rw[mC];omega) (qX xm) (mD _) (by unfold maxLen;omega) (by omega) hB;unfold Oper.wp execOp;simp only[ho,resolve,invoke,builtin,Sem.run_bind,Sem.run_pure,Result.andThen_ok,List.map_toArray,List.map_cons,List.map_nil,hs,hx,hr];rw[<-oT]at h1;have It:OT w' B v' (l++m):=by unfold OT;rw[List.length_append];exact h1
 obtain⟨ta,tc,rfl⟩:=It.shape;exact h ta _ tc w' It ((Below.refl B W).grown h2 hB fun k hk=>(World.ownsRow.lt bz k hk).1)
section
variable {n : Nat} {nm : ByteArray} {nms : List ByteArray} {vn : Nat} {val : VT vn} {l : List (ET n)} {q : Sl} {w : World}
theorem DQ(hP:aW)(hr:RE (n+1) w (⟨2,nm,nms,vn,val⟩,l) q)(hs:nm.size<=60000)(g:Gs w):Calls prog 35 #[.agg (ecl ⟨2,nm,nms,vn,val⟩ q)] w fun e w'=>bE [mk [46],de (bl nm)] w e w':=by
 obtain⟨x1,y1,z1,x2,y2,z2,x3,y3,z3,x4,y4,z4,aK⟩:=hr.shape;subst aK;have X0:=aa (bC w ⟨2,nm,nms,vn,val⟩ ⟨.slice x1 y1 z1,.slice x2 y2 z2,.slice x3 y3 z3,.slice x4 y4 z4⟩);have B0:Hid (∀o,Below w.heap.size w (w.alloc o)):=fun o=>ab af;have hn:=aa (fun W (hb:Below w.heap.size w W)=>gC hP nm W (g.below hb).gg hs);clear hr hs g hP;obtain⟨T,hT⟩:∃T,de (bl nm)=T:=⟨_,rfl⟩
 rw[hT]at hn ⊢;clear hT;unfold ecl at X0 ⊢
 dsimp only at X0 ⊢
 unfold dO at hn;go_enter func35,ntmps35;go_wp2_with fail
 have c0:=oA X0.out
 dsimp only at c0
 go_region_held3 (fun W=>W.cell? ⟨w.heap.size,1,none⟩=some (.string nm)) (first|(refine oA (h:=⟨2,nm,nms,vn,val⟩) (q:=⟨.slice x1 y1 z1,.slice x2 y2 z2,.slice x3 y3 z3,.slice x4 y4 z4⟩) ?_;(repeat (first|with_reducible (exact X0.out)|with_reducible (exact X1.out)|with_reducible (exact X2.out)|with_reducible (exact X3.out)|with_reducible (refine Ex.dr ?_)|with_reducible (refine Ex.al ?_))))) (first|(go_at_call 73;refine(eC _ _).mono ?_;rintro e w1 ⟨rfl,ai⟩;have B1:=aa (ac (B0.out _).drew ai);have X1:=aa (X0.out.dr.below ai);clear ai)|(go_at_call 74;refine(hn.out _ B1.out).mono ?_;rintro e w2 ⟨rfl,aq⟩;have B2:=aa (ac B1.out aq);have X2:=aa (X1.out.below aq);clear aq))
 go_wp2_with fail
 go_ret;exact⟨_,rfl,fg w2 w.heap.size (mk [46]) T B2.out.size,B2.out.alloc B2.out.size _⟩
theorem DN(hP:aW)(hr:RE (n+1) w (⟨5,nm,nms,vn,val⟩,l) q)(hs:nm.size<=60000)(g:Gs w):Calls prog 35 #[.agg (ecl ⟨5,nm,nms,vn,val⟩ q)] w fun e w'=>bE [wd [116,97,103],de (bl nm)] w e w':=by
 obtain⟨x1,y1,z1,x2,y2,z2,x3,y3,z3,x4,y4,z4,aK⟩:=hr.shape;subst aK;have X0:=aa (bC w ⟨5,nm,nms,vn,val⟩ ⟨.slice x1 y1 z1,.slice x2 y2 z2,.slice x3 y3 z3,.slice x4 y4 z4⟩);have B0:Hid (∀o,Below w.heap.size w (w.alloc o)):=fun o=>ab af;have hn:=aa (fun W (hb:Below w.heap.size w W)=>gC hP nm W (g.below hb).gg hs);clear hr hs g hP;obtain⟨T,hT⟩:∃T,de (bl nm)=T:=⟨_,rfl⟩
 rw[hT]at hn ⊢;clear hT;unfold ecl at X0 ⊢
 dsimp only at X0 ⊢
 unfold dO at hn;go_enter func35,ntmps35;go_wp2_with fail
 have c0:=oA X0.out
 dsimp only at c0
 go_region_held3 (fun W=>W.cell? ⟨w.heap.size,1,none⟩=some (.string nm)) (first|(refine oA (h:=⟨5,nm,nms,vn,val⟩) (q:=⟨.slice x1 y1 z1,.slice x2 y2 z2,.slice x3 y3 z3,.slice x4 y4 z4⟩) ?_;(repeat (first|with_reducible (exact X0.out)|with_reducible (exact X1.out)|with_reducible (exact X2.out)|with_reducible (exact X3.out)|with_reducible (refine Ex.dr ?_)|with_reducible (refine Ex.al ?_))))) (first|(go_at_call 75;refine(bu _ _).mono ?_;rintro e w1 ⟨rfl,ai⟩;have B1:=aa (ac (B0.out _).drew ai);have X1:=aa (X0.out.dr.below ai);clear ai)|(go_at_call 74;refine(hn.out _ B1.out).mono ?_;rintro e w2 ⟨rfl,aq⟩;have B2:=aa (ac B1.out aq);have X2:=aa (X1.out.below aq);clear aq))
 go_wp2_with fail
 go_ret;exact⟨_,rfl,fg w2 w.heap.size (wd [116,97,103]) T B2.out.size,B2.out.alloc B2.out.size _⟩
theorem DL(hr:RE (n+1) w (⟨7,nm,nms,vn,val⟩,l) q)(hv:(aI vn val).kind=3->eI (aI vn val).neg (aI vn val).dig (aI vn val).exp=true)(g:Gs w):Calls prog 35 #[.agg (ecl ⟨7,nm,nms,vn,val⟩ q)] w fun e w'=>bE [wd [99,111,110,115,116],tW (aI vn val)] w e w':=by
 obtain⟨x1,y1,z1,x2,y2,z2,x3,y3,z3,x4,y4,z4,aK⟩:=hr.shape;subst aK;have X0:=aa (bC w ⟨7,nm,nms,vn,val⟩ ⟨.slice x1 y1 z1,.slice x2 y2 z2,.slice x3 y3 z3,.slice x4 y4 z4⟩);have B0:Hid (∀o,Below w.heap.size w (w.alloc o)):=fun o=>ab af;have hn:=aa (fun W (hb:Below w.heap.size w W)=>Bs (aI vn val) x3 y3 z3 x4 y4 z4 W (g.below hb) hv);clear hr hv g;obtain⟨h,hh⟩:∃h,aI vn val=h:=⟨_,rfl⟩
 unfold ecl at X0 ⊢
 dsimp only at X0 ⊢
 have c0:=zD X0.out
 dsimp only at c0
 obtain⟨T,hT⟩:∃T,tW (aI vn val)=T:=⟨_,rfl⟩
 rw[hT]at hn ⊢;clear hT hh;unfold dO aP at hn;go_enter func35,ntmps35;go_wp2_with fail
 go_region_held3 (fun W=>W.cell? ⟨w.heap.size,4,none⟩=some (.int .i64 (aI vn val).kind)/\W.cell? ⟨w.heap.size,5,none⟩=some (.bool (aI vn val).flag)/\W.cell? ⟨w.heap.size,6,none⟩=some (.bool (aI vn val).neg)/\W.cell? ⟨w.heap.size,7,none⟩=some (.string (aI vn val).dig)/\W.cell? ⟨w.heap.size,8,none⟩=some (.int .i64 (aI vn val).exp)/\W.cell? ⟨w.heap.size,9,none⟩=some (.int .u64 (aI vn val).bits)/\W.cell? ⟨w.heap.size,10,none⟩=some (.string (aI vn val).text)/\W.cell? ⟨w.heap.size,11,none⟩=some (.slice x3 y3 z3)/\W.cell? ⟨w.heap.size,12,none⟩=some (.slice x4 y4 z4)) (first|(refine zD (h:=⟨7,nm,nms,vn,val⟩) (q:=⟨.slice x1 y1 z1,.slice x2 y2 z2,.slice x3 y3 z3,.slice x4 y4 z4⟩) ?_;(repeat (first|with_reducible (exact X0.out)|with_reducible (exact X1.out)|with_reducible (exact X2.out)|with_reducible (exact X3.out)|with_reducible (refine Ex.dr ?_)|with_reducible (refine Ex.al ?_))))) (first|(go_at_call 75;refine(bu _ _).mono ?_;rintro e w1 ⟨rfl,ai⟩;have B1:=aa (ac (B0.out _).drew ai);have X1:=aa (X0.out.dr.below ai);clear ai)|(go_at_call 76;refine(hn.out _ B1.out).mono ?_;rintro e w2 ⟨rfl,aq⟩;have B2:=aa (ac B1.out aq);have X2:=aa (X1.out.below aq);clear aq))
 go_wp2_with fail
 go_ret;exact⟨_,rfl,fg w2 w.heap.size (wd [99,111,110,115,116]) T B2.out.size,B2.out.alloc B2.out.size _⟩
theorem DO(ih:tK n)(hr:RE (n+1) w (⟨4,nm,nms,vn,val⟩,l) q)(h1:l.length=1)(hp:∀y∈l,IV n y)(hz:(fM [91] ((l.map (bp n)).headD []) [93]).length<=1000000)(g:Gs w):Calls prog 35 #[.agg (ecl ⟨4,nm,nms,vn,val⟩ q)] w fun e w'=>bE (fM [91] ((l.map (bp n)).headD []) [93]) w e w':=by
 obtain⟨y,rfl⟩:∃y,l=[y]:=by
  match l,h1 with
  | [y],_=>exact⟨y,rfl⟩
 obtain⟨lb,lo,lc9,cd,ic,lm,ni,q2,bT,bf⟩:=hr.tl.at 0 (by simp);simp only[List.map_cons,List.map_nil,List.headD_cons,List.getElem_cons_zero,Nat.zero_mul,Nat.add_zero]at hz bT bf ⊢;have nS:Hid ((bp n y).length<=1000000):=by show _<=_;simp only[fM,List.length_cons,List.length_append]at hz;omega
 obtain⟨x1,y1,z1,x2,y2,z2,x3,y3,z3,x4,y4,z4,aK⟩:=hr.shape;subst aK;have X0:=aa (bC w ⟨4,nm,nms,vn,val⟩ ⟨.slice x1 y1 z1,.slice x2 y2 z2,.slice x3 y3 z3,.slice x4 y4 z4⟩);have B0:Hid (∀o,Below w.heap.size w (w.alloc o)):=fun o=>ab af
 dsimp only at cd
 obtain⟨rfl,rfl,rfl⟩:=Value.slice.inj cd;clear cd;obtain⟨b1,b2,b3,b4,b5,b6,b7,b8,b9,b10,b11,b12,aK⟩:=bf.shape;subst aK;have q0:=bJ (am bT (B0.out (.cells (ecl ⟨4,nm,nms,vn,val⟩ ⟨.slice x1 y1 z1,.slice (some ⟨lb,lo,none⟩) ([y]:List (ET n)).length z2,.slice x3 y3 z3,.slice x4 y4 z4⟩) 33)) ic);have hcall:=aa (fun W (hb:Below w.heap.size w W)=>ih y _ W (bf.below hb) (hp y (by simp)) nS.out (g.below hb));clear hr bT bf hp ih g hz ic lm ni;obtain⟨h,hh⟩:∃h,ehd n y=h:=⟨_,rfl⟩
 rw[hh]at hcall q0;clear hh;unfold ecl at X0 q0 hcall ⊢;unfold bE at hcall;simp only[List.length_cons,List.length_nil]at X0 q0 ⊢;go_enter func35,ntmps35;go_wp2_with(go_at_call 35;refine ak.out ?_)
 refine ak.mk ?_;refine(hcall.out _ (B0.out _)).mono ?_;rintro e w1 ⟨v,rfl,hO,ai⟩;have B1:=aa (ac (B0.out _) ai);have sR:=aa (dA [91] [93] v _ _ w1 hO nS.out);unfold bE at sR;clear hO ai hcall q0;go_wp2_with(go_at_call 77;refine ak.out ?_)
 refine ak.mk ?_;refine sR.out.mono ?_;rintro e w2 ⟨v2,rfl,iz,aq⟩;have B2:=aa (ac B1.out aq);have H2:=aa iz;have z1:=B1.out.size;clear iz aq sR;go_wp2_with fail
 go_ret;exact⟨_,rfl,H2.out.low z1,B2.out⟩
theorem DP(hP:aW)(ih:tK n)(hr:RE (n+1) w (⟨3,nm,nms,vn,val⟩,l) q)(h1:nms.length=l.length)(hs:∀s∈nms,s.size<=60000)(hp:∀y∈l,IV n y)(nT:l.length<=100000)(hz:(io [61] nms (l.map (bp n))).length<=1000000)(g:Gs w):Calls prog 35 #[.agg (ecl ⟨3,nm,nms,vn,val⟩ q)] w fun e w'=>bE (io [61] nms (l.map (bp n))) w e w':=by
 obtain⟨x1,y1,z1,x2,y2,z2,x3,y3,z3,x4,y4,z4,aK⟩:=hr.shape;subst aK;have X0:=aa (bC w ⟨3,nm,nms,vn,val⟩ ⟨.slice x1 y1 z1,.slice x2 y2 z2,.slice x3 y3 z3,.slice x4 y4 z4⟩);have B0:Hid (∀o,Below w.heap.size w (w.alloc o)):=fun o=>ab af;have hc:=aa (fun W (hb:Below w.heap.size w W)=>mU ih hP [61] _ _ nms l W (g.below hb) (hr.1.below hb) (hr.tl.below hb) h1 hs hp hz nT);clear hr hs g hP hp ih hz h1;obtain⟨T,hT⟩:∃T,io [61] nms (l.map (bp n))=T:=⟨_,rfl⟩
 rw[hT]at hc ⊢;clear hT;unfold ecl at X0 ⊢
 dsimp only at X0 hc ⊢
 unfold bE at hc;have c0:=zE X0.out
 dsimp only at c0
 go_enter func35,ntmps35;go_wp2_with(go_at_call 78;refine ak.out ?_)
 refine ak.mk ?_;refine(hc.out _ (B0.out _)).mono ?_;rintro e w1 ⟨v,rfl,hO,ai⟩;have B1:=aa (ac (B0.out _) ai);have O1:=aa hO;clear hO ai hc;go_wp2_with fail
 go_ret;exact⟨_,rfl,O1.out.low (B0.out _).size,B1.out⟩
theorem AG(ih:tK n)(hr:RE (n+1) w (⟨12,nm,nms,vn,val⟩,l) q)(hp:∀y∈l,IV n y)(nT:l.length<=100000)(hz:(aU (mk [59]) (l.map (jV n))).length<=1000000)(g:Gs w):Calls prog 35 #[.agg (ecl ⟨12,nm,nms,vn,val⟩ q)] w fun e w'=>bE (aU (mk [59]) (l.map (jV n))) w e w':=by
 obtain⟨x1,y1,z1,x2,y2,z2,x3,y3,z3,x4,y4,z4,aK⟩:=hr.shape;subst aK;have X0:=aa (bC w ⟨12,nm,nms,vn,val⟩ ⟨.slice x1 y1 z1,.slice x2 y2 z2,.slice x3 y3 z3,.slice x4 y4 z4⟩);have B0:Hid (∀o,Below w.heap.size w (w.alloc o)):=fun o=>ab af;have hc:=aa (fun W (hb:Below w.heap.size w W)=>uE ih _ l W (g.below hb) (hr.tl.below hb) hp hz nT);clear hr g hp ih hz;obtain⟨T,hT⟩:∃T,aU (mk [59]) (l.map (jV n))=T:=⟨_,rfl⟩
 rw[hT]at hc ⊢;clear hT;unfold ecl at X0 ⊢
 dsimp only at X0 hc ⊢
 unfold bE at hc;have c0:=zE X0.out
 dsimp only at c0
 go_enter func35,ntmps35;go_wp2_with(go_at_call 79;refine ak.out ?_)
 refine ak.mk ?_;refine(hc.out _ (B0.out _)).mono ?_;rintro e w1 ⟨v,rfl,hO,ai⟩;have B1:=aa (ac (B0.out _) ai);have O1:=aa hO;clear hO ai hc;go_wp2_with fail
 go_ret;exact⟨_,rfl,O1.out.low (B0.out _).size,B1.out⟩
theorem DM(hP:aW)(ih:tK n)(hr:RE (n+1) w (⟨6,nm,nms,vn,val⟩,l) q)(h1:nms.length=l.length)(hs:∀s∈nms,s.size<=60000)(hp:∀y∈l,IV n y)(nT:l.length<=100000)(hz:(io [61] nms (l.map (bp n))).length<=1000000)(g:Gs w):Calls prog 35 #[.agg (ecl ⟨6,nm,nms,vn,val⟩ q)] w fun e w'=>bE (wd [99,97,115,101]::io [61] nms (l.map (bp n))) w e w':=by
 obtain⟨x1,y1,z1,x2,y2,z2,x3,y3,z3,x4,y4,z4,aK⟩:=hr.shape;subst aK;have X0:=aa (bC w ⟨6,nm,nms,vn,val⟩ ⟨.slice x1 y1 z1,.slice x2 y2 z2,.slice x3 y3 z3,.slice x4 y4 z4⟩);have B0:Hid (∀o,Below w.heap.size w (w.alloc o)):=fun o=>ab af;have hc:=aa (fun W (hb:Below w.heap.size w W)=>mU ih hP [61] _ _ nms l W (g.below hb) (hr.1.below hb) (hr.tl.below hb) h1 hs hp hz nT);clear hr hs g hP hp ih h1;obtain⟨T,hT⟩:∃T,io [61] nms (l.map (bp n))=T:=⟨_,rfl⟩
 rw[hT]at hc hz ⊢;have HZ:=aa hz;clear hT hz;unfold ecl at X0 ⊢
 dsimp only at X0 hc ⊢
 unfold bE at hc;have c0:=zE X0.out
 dsimp only at c0
 go_enter func35,ntmps35;go_wp2_with fail
 go_region_held3 (fun W=>W.cell? ⟨w.heap.size,2,none⟩=some (.slice x1 y1 z1)/\W.cell? ⟨w.heap.size,3,none⟩=some (.slice x2 y2 z2)) (first|(refine zE (h:=⟨6,nm,nms,vn,val⟩) (q:=⟨.slice x1 y1 z1,.slice x2 y2 z2,.slice x3 y3 z3,.slice x4 y4 z4⟩) ?_;(repeat (first|with_reducible (exact X0.out)|with_reducible (exact X1.out)|with_reducible (exact X2.out)|with_reducible (exact X3.out)|with_reducible (refine Ex.dr ?_)|with_reducible (refine Ex.al ?_))))) (first|(go_at_call 75;refine(bu _ _).mono ?_;rintro e w1 ⟨rfl,ai⟩;have B1:=aa (ac (B0.out _).drew ai);have X1:=aa (X0.out.dr.below ai);clear ai)|(go_at_call 78;refine(hc.out _ B1.out).mono ?_;rintro e w2 ⟨v2,rfl,iz,aq⟩;have B2:=aa (ac B1.out aq);have X2:=aa (X1.out.below aq);have O2:=aa (iz.low B1.out.size);have N2:=aa (bv w2 (w.heap.size+1) (wd [99,97,115,101]) X2.out.lt);clear aq iz)|(go_at_call 78;refine(hc.out _ (B1.out.alloc B1.out.size _)).mono ?_;rintro e w2 ⟨v2,rfl,iz,aq⟩;have B2:=aa (ac (B1.out.alloc B1.out.size _) aq);have X2:=aa (X1.out.al.below aq);have O2:=aa (iz.low (C:=w.heap.size) (by simp only[World.size_alloc];have:=B1.out.size;omega));have N2:=aa ((bv w1 (w.heap.size+1) (wd [99,97,115,101]) X1.out.lt).below aq);clear aq iz)|(refine fT rfl (.tmp 44) (.tmp 49) rfl (w.heap.size+1) _ [wd [99,97,115,101]] rfl N2.out w.heap.size _ T rfl O2.out (by have:=HZ.out;simp only[List.length_cons,List.length_nil];omega) X2.out.lt ?_;intro ta tn tc w3 o3 b3;have X3:=aa (Ex.mk ((b3.out.block w.heap.size (by omega)).trans X2.out.at_)))|(refine fT rfl (.tmp 44) (.tmp 49) rfl (w.heap.size+1) _ [wd [99,97,115,101]] rfl N2.out w.heap.size _ T rfl (O2.out.below (ab af)) (by have:=HZ.out;simp only[List.length_cons,List.length_nil];omega) X2.out.al.lt ?_;intro ta tn tc w3 o3 b3;have X3:=aa (Ex.mk ((b3.out.block w.heap.size (by omega)).trans X2.out.al.at_))))
 all_goals
  go_wp2_with fail
  go_ret;exact⟨_,rfl,(OT.low (C:=w.heap.size) o3.out (by omega)),(by first|exact B2.out.trans (b3.out.mono (by omega))|exact(B2.out.alloc B2.out.size _).trans (b3.out.mono (by omega)))⟩
theorem DR(hr:RE (n+1) w (⟨1,nm,nms,vn,val⟩,l) q)(g:Gs w):Calls prog 35 #[.agg (ecl ⟨1,nm,nms,vn,val⟩ q)] w fun e w'=>bE [wd [105,100]] w e w':=by
 obtain⟨x1,y1,z1,x2,y2,z2,x3,y3,z3,x4,y4,z4,aK⟩:=hr.shape;subst aK;have X0:=aa (bC w ⟨1,nm,nms,vn,val⟩ ⟨.slice x1 y1 z1,.slice x2 y2 z2,.slice x3 y3 z3,.slice x4 y4 z4⟩);have B0:Hid (∀o,Below w.heap.size w (w.alloc o)):=fun o=>ab af;have c1:∀o,(w.alloc o).cell? ⟨1,1,none⟩=some (.string ⟨#[105,100]⟩):=fun o=>by obtain⟨⟨t,fr,hc⟩,_⟩:=(g.below (ab (o:=o) af)).gp;unfold World.cell?;rw[hc];rfl
 clear hr g;unfold ecl at X0 ⊢
 dsimp only at X0 ⊢
 go_enter func35,ntmps35;go_wp2_with(go_at_call 75;refine ak.out ?_)
 refine ak.mk ?_;refine(bu _ _).mono ?_;rintro e w1 ⟨rfl,ai⟩;have B1:=aa (ac (B0.out _) ai);clear ai c1;go_wp2_with fail
 go_ret;exact⟨_,rfl,bv w1 w.heap.size (wd [105,100]) B1.out.size,B1.out.alloc B1.out.size _⟩
theorem DK(hr:RE (n+1) w (⟨8,nm,nms,vn,val⟩,l) q)(g:Gs w):Calls prog 35 #[.agg (ecl ⟨8,nm,nms,vn,val⟩ q)] w fun e w'=>bE [wd [116,111,116,101,120,116]] w e w':=by
 obtain⟨x1,y1,z1,x2,y2,z2,x3,y3,z3,x4,y4,z4,aK⟩:=hr.shape;subst aK;have X0:=aa (bC w ⟨8,nm,nms,vn,val⟩ ⟨.slice x1 y1 z1,.slice x2 y2 z2,.slice x3 y3 z3,.slice x4 y4 z4⟩);have B0:Hid (∀o,Below w.heap.size w (w.alloc o)):=fun o=>ab af;have c1:∀o,(w.alloc o).cell? ⟨1,8,none⟩=some (.string ⟨#[116,111,116,101,120,116]⟩):=fun o=>by obtain⟨⟨t,fr,hc⟩,_⟩:=(g.below (ab (o:=o) af)).gp;unfold World.cell?;rw[hc];rfl
 clear hr g;unfold ecl at X0 ⊢
 dsimp only at X0 ⊢
 go_enter func35,ntmps35;go_wp2_with(go_at_call 75;refine ak.out ?_)
 refine ak.mk ?_;refine(bu _ _).mono ?_;rintro e w1 ⟨rfl,ai⟩;have B1:=aa (ac (B0.out _) ai);clear ai c1;go_wp2_with fail
 go_ret;exact⟨_,rfl,bv w1 w.heap.size (wd [116,111,116,101,120,116]) B1.out.size,B1.out.alloc B1.out.size _⟩
theorem DJ(hr:RE (n+1) w (⟨9,nm,nms,vn,val⟩,l) q)(g:Gs w):Calls prog 35 #[.agg (ecl ⟨9,nm,nms,vn,val⟩ q)] w fun e w'=>bE [wd [116,111,110,117,109]] w e w':=by
 obtain⟨x1,y1,z1,x2,y2,z2,x3,y3,z3,x4,y4,z4,aK⟩:=hr.shape;subst aK;have X0:=aa (bC w ⟨9,nm,nms,vn,val⟩ ⟨.slice x1 y1 z1,.slice x2 y2 z2,.slice x3 y3 z3,.slice x4 y4 z4⟩);have B0:Hid (∀o,Below w.heap.size w (w.alloc o)):=fun o=>ab af;have c1:∀o,(w.alloc o).cell? ⟨1,9,none⟩=some (.string ⟨#[116,111,110,117,109]⟩):=fun o=>by obtain⟨⟨t,fr,hc⟩,_⟩:=(g.below (ab (o:=o) af)).gp;unfold World.cell?;rw[hc];rfl
 clear hr g;unfold ecl at X0 ⊢
 dsimp only at X0 ⊢
 go_enter func35,ntmps35;go_wp2_with(go_at_call 75;refine ak.out ?_)
 refine ak.mk ?_;refine(bu _ _).mono ?_;rintro e w1 ⟨rfl,ai⟩;have B1:=aa (ac (B0.out _) ai);clear ai c1;go_wp2_with fail
 go_ret;exact⟨_,rfl,bv w1 w.heap.size (wd [116,111,110,117,109]) B1.out.size,B1.out.alloc B1.out.size _⟩
theorem AI(hr:RE (n+1) w (⟨10,nm,nms,vn,val⟩,l) q)(g:Gs w):Calls prog 35 #[.agg (ecl ⟨10,nm,nms,vn,val⟩ q)] w fun e w'=>bE [wd [115,117,109]] w e w':=by
 obtain⟨x1,y1,z1,x2,y2,z2,x3,y3,z3,x4,y4,z4,aK⟩:=hr.shape;subst aK;have X0:=aa (bC w ⟨10,nm,nms,vn,val⟩ ⟨.slice x1 y1 z1,.slice x2 y2 z2,.slice x3 y3 z3,.slice x4 y4 z4⟩);have B0:Hid (∀o,Below w.heap.size w (w.alloc o)):=fun o=>ab af;have c1:∀o,(w.alloc o).cell? ⟨1,10,none⟩=some (.string ⟨#[115,117,109]⟩):=fun o=>by obtain⟨⟨t,fr,hc⟩,_⟩:=(g.below (ab (o:=o) af)).gp;unfold World.cell?;rw[hc];rfl
 clear hr g;unfold ecl at X0 ⊢
 dsimp only at X0 ⊢
 go_enter func35,ntmps35;go_wp2_with(go_at_call 75;refine ak.out ?_)
 refine ak.mk ?_;refine(bu _ _).mono ?_;rintro e w1 ⟨rfl,ai⟩;have B1:=aa (ac (B0.out _) ai);clear ai c1;go_wp2_with fail
 go_ret;exact⟨_,rfl,bv w1 w.heap.size (wd [115,117,109]) B1.out.size,B1.out.alloc B1.out.size _⟩
theorem AH(hr:RE (n+1) w (⟨11,nm,nms,vn,val⟩,l) q)(g:Gs w):Calls prog 35 #[.agg (ecl ⟨11,nm,nms,vn,val⟩ q)] w fun e w'=>bE [wd [99,111,117,110,116]] w e w':=by
 obtain⟨x1,y1,z1,x2,y2,z2,x3,y3,z3,x4,y4,z4,aK⟩:=hr.shape;subst aK;have X0:=aa (bC w ⟨11,nm,nms,vn,val⟩ ⟨.slice x1 y1 z1,.slice x2 y2 z2,.slice x3 y3 z3,.slice x4 y4 z4⟩);have B0:Hid (∀o,Below w.heap.size w (w.alloc o)):=fun o=>ab af;have c1:∀o,(w.alloc o).cell? ⟨1,11,none⟩=some (.string ⟨#[99,111,117,110,116]⟩):=fun o=>by obtain⟨⟨t,fr,hc⟩,_⟩:=(g.below (ab (o:=o) af)).gp;unfold World.cell?;rw[hc];rfl
 clear hr g;unfold ecl at X0 ⊢
 dsimp only at X0 ⊢
 go_enter func35,ntmps35;go_wp2_with(go_at_call 75;refine ak.out ?_)
 refine ak.mk ?_;refine(bu _ _).mono ?_;rintro e w1 ⟨rfl,ai⟩;have B1:=aa (ac (B0.out _) ai);clear ai c1;go_wp2_with fail
 go_ret;exact⟨_,rfl,bv w1 w.heap.size (wd [99,111,117,110,116]) B1.out.size,B1.out.alloc B1.out.size _⟩
end
end Lx
