import Derived.Test.YtcnfchblfcfimaaGreatDoorZh43
import Derived.Test.YtcnfchblfcfimaaGreatDoorZh44
set_option linter.all false
set_option maxHeartbeats 16000000
set_option maxRecDepth 100000
namespace Go.Proofs.YtcnfchblfcfimaaGreatDoor
open Proofs.Tryz RowKit
namespace Lx
theorem MA{W:World}{i:Nat}{c:Array Value}{T:TypeId}(h:W.heap[i]?=some (.cells c T (0,0)))(j:Nat):W.frozen? ⟨i,j,none⟩=false:=by simp[World.frozen?,h]
theorem tk_zc{W:World}{i:Nat}(h:W.heap[i]?=some (.cells #[.int .i64 0,.string ⟨#[]⟩,.int .i64 0] 88 (0,0))):W.cell? ⟨i,0,none⟩=some (.int .i64 0)/\W.cell? ⟨i,1,none⟩=some (.string ⟨#[]⟩)/\W.cell? ⟨i,2,none⟩=some (.int .i64 0):=by refine⟨?_,?_,?_⟩<;>(unfold World.cell?;rw[h];rfl)
theorem tk_bo{w:World}:Hid (∀o,Below w.heap.size w (w.alloc o)):=fun o=>ab af
theorem wy(h:Hd)(x3:Option Addr)(y3 z3:Nat)(x4:Option Addr)(y4 z4:Nat)(w:World)(hk:jI h.kind)(hv:h.kind=3->eI h.neg h.dig h.exp=true):Calls prog 92 #[.agg (aP h (.slice x3 y3 z3) (.slice x4 y4 z4))] w fun e w'=>e=.returned (dO (tW h))/\Below w.heap.size w w':=by
 obtain⟨kd,fl,ng,dg,ex,bt,tx,ns⟩:=h;have hp:=aa (fun(h3:kd=3) W=>Go.Proofs.YtcnfchblfcfimaaGreatDoor.rprint_any ng dg ex W (hv h3));have hw:=aa (fun s W=>dI s W);have ES:Hid (aj (bl tx)=tx):=dh tx;have Z0:=aa (gR (W:=w.alloc (.cells (aP ⟨kd,fl,ng,dg,ex,bt,tx,ns⟩ (.slice x3 y3 z3) (.slice x4 y4 z4)) 31)) (o:=.cells #[.int .i64 0,.string ⟨#[]⟩,.int .i64 0] 88) (i:=w.heap.size+1) (by simp));have V0:=aa ((eg w ⟨kd,fl,ng,dg,ex,bt,tx,ns⟩ (.slice x3 y3 z3) (.slice x4 y4 z4)).below (ab (o:=.cells #[.int .i64 0,.string ⟨#[]⟩,.int .i64 0] 88) af));have b0:=aa (ab (o:=.cells #[.int .i64 0,.string ⟨#[]⟩,.int .i64 0] 88) (ab (o:=.cells (aP ⟨kd,fl,ng,dg,ex,bt,tx,ns⟩ (.slice x3 y3 z3) (.slice x4 y4 z4)) 31) (Below.refl w.heap.size w)));have c0:=V0.out.cells;have k0:(((w.alloc (.cells (aP ⟨kd,fl,ng,dg,ex,bt,tx,ns⟩ (.slice x3 y3 z3) (.slice x4 y4 z4)) 31)).alloc (.cells #[.int .i64 0,.string ⟨#[]⟩,.int .i64 0] 88)).cell? ⟨w.heap.size+1,0,none⟩=some (.int .i64 0))/\(((w.alloc (.cells (aP ⟨kd,fl,ng,dg,ex,bt,tx,ns⟩ (.slice x3 y3 z3) (.slice x4 y4 z4)) 31)).alloc (.cells #[.int .i64 0,.string ⟨#[]⟩,.int .i64 0] 88)).cell? ⟨w.heap.size+1,1,none⟩=some (.string ⟨#[]⟩))/\(((w.alloc (.cells (aP ⟨kd,fl,ng,dg,ex,bt,tx,ns⟩ (.slice x3 y3 z3) (.slice x4 y4 z4)) 31)).alloc (.cells #[.int .i64 0,.string ⟨#[]⟩,.int .i64 0] 88)).cell? ⟨w.heap.size+1,2,none⟩=some (.int .i64 0)):=by refine⟨?_,?_,?_⟩<;>(unfold World.cell?;rw[Z0.out];rfl)
 clear V0;unfold aP at Z0 b0 c0 k0 ⊢;simp only at Z0 b0 c0 k0 hk ⊢;rcases hk with rfl|rfl|rfl|rfl
 ·show Calls _ _ _ _ fun e w'=>e=.returned (dO (wd [110,117,108,108]))/\_
  go_enter func92,ntmps92;go_wp2_with(go_at_call 91;refine ak.out ?_)
  refine ak.mk ((hw.out _ _).mono ?_);rintro e w2 ⟨rfl,aq⟩;have Z2:=aa ((aq.block (w.heap.size+1) (by simp)).trans Z0.out);have B2:=aa (ac b0.out aq);clear aq Z0 c0 k0 b0;have k2:=tk_zc Z2.out;have kf:∀j,w2.frozen? ⟨w.heap.size+1,j,none⟩=false:=fun j=>by have:=Z2.out;simp[World.frozen?,this]
  go_wp2_with fail
  refine bodyPost_ret (v:=dO (wd [110,117,108,108])) (by simp[results,Tryz.results92,go_sem,dO,wd,aj, *]) rfl ⟨rfl,?_⟩
  (repeat (refine Below.setCell ?_ (by show w.heap.size<=w.heap.size+1;omega) _))
  exact B2.out
 ·cases fl
  ·show Calls _ _ _ _ fun e w'=>e=.returned (dO (wd [102,97,108,115,101]))/\_
   go_enter func92,ntmps92;go_wp2_with(go_at_call 91;refine ak.out ?_)
   refine ak.mk ((hw.out _ _).mono ?_);rintro e w2 ⟨rfl,aq⟩;have Z2:=aa ((aq.block (w.heap.size+1) (by simp)).trans Z0.out);have B2:=aa (ac b0.out aq);clear aq Z0 c0 k0 b0;have k2:=tk_zc Z2.out;have kf:∀j,w2.frozen? ⟨w.heap.size+1,j,none⟩=false:=fun j=>by have:=Z2.out;simp[World.frozen?,this]
   go_wp2_with fail
   refine bodyPost_ret (v:=dO (wd [102,97,108,115,101])) (by simp[results,Tryz.results92,go_sem,dO,wd,aj, *]) rfl ⟨rfl,?_⟩
   (repeat (refine Below.setCell ?_ (by show w.heap.size<=w.heap.size+1;omega) _))
   exact B2.out
  show Calls _ _ _ _ fun e w'=>e=.returned (dO (wd [116,114,117,101]))/\_;go_enter func92,ntmps92;go_wp2_with(go_at_call 91;refine ak.out ?_)
  refine ak.mk ((hw.out _ _).mono ?_);rintro e w2 ⟨rfl,aq⟩;have Z2:=aa ((aq.block (w.heap.size+1) (by simp)).trans Z0.out);have B2:=aa (ac b0.out aq);clear aq Z0 c0 k0 b0;have k2:=tk_zc Z2.out;have kf:∀j,w2.frozen? ⟨w.heap.size+1,j,none⟩=false:=fun j=>by have:=Z2.out;simp[World.frozen?,this]
  go_wp2_with fail
  refine bodyPost_ret (v:=dO (wd [116,114,117,101])) (by simp[results,Tryz.results92,go_sem,dO,wd,aj, *]) rfl ⟨rfl,?_⟩
  (repeat (refine Below.setCell ?_ (by show w.heap.size<=w.heap.size+1;omega) _))
  exact B2.out
 ·show Calls _ _ _ _ fun e w'=>e=.returned (dO ⟨3,fF ng (bl dg) ex,0⟩)/\_
  have Nl:=aa (hp.out rfl);obtain⟨P,hP⟩:∃P,fF ng (bl dg) ex=P:=⟨_,rfl⟩
  rw[hP]at Nl ⊢;go_enter func92,ntmps92;go_wp2_with(go_at_call 142;refine ak.out ?_)
  refine ak.mk ((Nl.out _).mono ?_);rintro e w2 ⟨rfl,aq⟩;have Z2:=aa ((aq.block (w.heap.size+1) (by simp)).trans Z0.out);have B2:=aa (ac b0.out aq);clear aq Z0 c0 k0 b0;have k2:=tk_zc Z2.out;have kf:∀j,w2.frozen? ⟨w.heap.size+1,j,none⟩=false:=fun j=>by have:=Z2.out;simp[World.frozen?,this]
  go_wp2_with fail
  refine bodyPost_ret (v:=dO ⟨3,P,0⟩) (by simp[results,Tryz.results92,go_sem,dO, *]) rfl ⟨rfl,?_⟩
  (repeat (refine Below.setCell ?_ (by show w.heap.size<=w.heap.size+1;omega) _))
  exact B2.out
 show Calls _ _ _ _ fun e w'=>e=.returned (dO ⟨2,bl tx,0⟩)/\_;have kf:∀j,((w.alloc (.cells #[.int .i64 5,.bool fl,.bool ng,.string dg,.int .i64 ex,.int .u64 bt,.string tx,.slice x3 y3 z3,.slice x4 y4 z4] 31)).alloc (.cells #[.int .i64 0,.string ⟨#[]⟩,.int .i64 0] 88)).frozen? ⟨w.heap.size+1,j,none⟩=false:=fun j=>MA Z0.out j;go_enter func92,ntmps92;go_wp2_with fail
 refine bodyPost_ret (v:=dO ⟨2,bl tx,0⟩) (by simp[results,Tryz.results92,go_sem,dO,ES.out, *]) rfl ⟨rfl,?_⟩
 (repeat (refine Below.setCell ?_ (by show w.heap.size<=w.heap.size+1;omega) _))
 first|exact b0.out|exact ab (ab af)
section
variable {n : Nat} {nm : ByteArray} {nms : List ByteArray} {vn : Nat} {val : VT vn} {l : List (ET n)} {q : Sl} {w : World}
theorem Of(hr:RE (n+1) w (⟨1,nm,nms,vn,val⟩,l) q):Calls prog 43 #[.agg (ecl ⟨1,nm,nms,vn,val⟩ q)] w fun e w'=>bE [wd [105,100]] w e w':=by
 obtain⟨x1,y1,z1,x2,y2,z2,x3,y3,z3,x4,y4,z4,aK⟩:=hr.shape;subst aK;have X0:=aa (bC w ⟨1,nm,nms,vn,val⟩ ⟨.slice x1 y1 z1,.slice x2 y2 z2,.slice x3 y3 z3,.slice x4 y4 z4⟩);have B0:=tk_bo (w:=w);clear hr;have c0:=X0.out.cells;unfold ecl at c0 ⊢
 dsimp only at c0 ⊢
 go_enter func43,ntmps43;go_wp2_with(go_at_call 91;refine ak.out ?_)
 refine ak.mk ((dI _ _).mono ?_);rintro e w1 ⟨rfl,ai⟩;have B1:=aa (ac (B0.out _) ai);clear ai c0 X0;go_wp2_with fail
 go_ret;exact⟨_,rfl,bv w1 w.heap.size (wd [105,100]) B1.out.size,B1.out.alloc B1.out.size _⟩
theorem NY(hr:RE (n+1) w (⟨8,nm,nms,vn,val⟩,l) q):Calls prog 43 #[.agg (ecl ⟨8,nm,nms,vn,val⟩ q)] w fun e w'=>bE [wd [116,111,116,101,120,116]] w e w':=by
 obtain⟨x1,y1,z1,x2,y2,z2,x3,y3,z3,x4,y4,z4,aK⟩:=hr.shape;subst aK;have X0:=aa (bC w ⟨8,nm,nms,vn,val⟩ ⟨.slice x1 y1 z1,.slice x2 y2 z2,.slice x3 y3 z3,.slice x4 y4 z4⟩);have B0:=tk_bo (w:=w);clear hr;have c0:=X0.out.cells;unfold ecl at c0 ⊢
 dsimp only at c0 ⊢
 go_enter func43,ntmps43;go_wp2_with(go_at_call 91;refine ak.out ?_)
 refine ak.mk ((dI _ _).mono ?_);rintro e w1 ⟨rfl,ai⟩;have B1:=aa (ac (B0.out _) ai);clear ai c0 X0;go_wp2_with fail
 go_ret;exact⟨_,rfl,bv w1 w.heap.size (wd [116,111,116,101,120,116]) B1.out.size,B1.out.alloc B1.out.size _⟩
theorem NX(hr:RE (n+1) w (⟨9,nm,nms,vn,val⟩,l) q):Calls prog 43 #[.agg (ecl ⟨9,nm,nms,vn,val⟩ q)] w fun e w'=>bE [wd [116,111,110,117,109]] w e w':=by
 obtain⟨x1,y1,z1,x2,y2,z2,x3,y3,z3,x4,y4,z4,aK⟩:=hr.shape;subst aK;have X0:=aa (bC w ⟨9,nm,nms,vn,val⟩ ⟨.slice x1 y1 z1,.slice x2 y2 z2,.slice x3 y3 z3,.slice x4 y4 z4⟩);have B0:=tk_bo (w:=w);clear hr;have c0:=X0.out.cells;unfold ecl at c0 ⊢
 dsimp only at c0 ⊢
 go_enter func43,ntmps43;go_wp2_with(go_at_call 91;refine ak.out ?_)
 refine ak.mk ((dI _ _).mono ?_);rintro e w1 ⟨rfl,ai⟩;have B1:=aa (ac (B0.out _) ai);clear ai c0 X0;go_wp2_with fail
 go_ret;exact⟨_,rfl,bv w1 w.heap.size (wd [116,111,110,117,109]) B1.out.size,B1.out.alloc B1.out.size _⟩
theorem Kn(hr:RE (n+1) w (⟨10,nm,nms,vn,val⟩,l) q):Calls prog 43 #[.agg (ecl ⟨10,nm,nms,vn,val⟩ q)] w fun e w'=>bE [wd [115,117,109]] w e w':=by
 obtain⟨x1,y1,z1,x2,y2,z2,x3,y3,z3,x4,y4,z4,aK⟩:=hr.shape;subst aK;have X0:=aa (bC w ⟨10,nm,nms,vn,val⟩ ⟨.slice x1 y1 z1,.slice x2 y2 z2,.slice x3 y3 z3,.slice x4 y4 z4⟩);have B0:=tk_bo (w:=w);clear hr;have c0:=X0.out.cells;unfold ecl at c0 ⊢
 dsimp only at c0 ⊢
 go_enter func43,ntmps43;go_wp2_with(go_at_call 91;refine ak.out ?_)
 refine ak.mk ((dI _ _).mono ?_);rintro e w1 ⟨rfl,ai⟩;have B1:=aa (ac (B0.out _) ai);clear ai c0 X0;go_wp2_with fail
 go_ret;exact⟨_,rfl,bv w1 w.heap.size (wd [115,117,109]) B1.out.size,B1.out.alloc B1.out.size _⟩
theorem Km(hr:RE (n+1) w (⟨11,nm,nms,vn,val⟩,l) q):Calls prog 43 #[.agg (ecl ⟨11,nm,nms,vn,val⟩ q)] w fun e w'=>bE [wd [99,111,117,110,116]] w e w':=by
 obtain⟨x1,y1,z1,x2,y2,z2,x3,y3,z3,x4,y4,z4,aK⟩:=hr.shape;subst aK;have X0:=aa (bC w ⟨11,nm,nms,vn,val⟩ ⟨.slice x1 y1 z1,.slice x2 y2 z2,.slice x3 y3 z3,.slice x4 y4 z4⟩);have B0:=tk_bo (w:=w);clear hr;have c0:=X0.out.cells;unfold ecl at c0 ⊢
 dsimp only at c0 ⊢
 go_enter func43,ntmps43;go_wp2_with(go_at_call 91;refine ak.out ?_)
 refine ak.mk ((dI _ _).mono ?_);rintro e w1 ⟨rfl,ai⟩;have B1:=aa (ac (B0.out _) ai);clear ai c0 X0;go_wp2_with fail
 go_ret;exact⟨_,rfl,bv w1 w.heap.size (wd [99,111,117,110,116]) B1.out.size,B1.out.alloc B1.out.size _⟩
theorem Oe(hr:RE (n+1) w (⟨2,nm,nms,vn,val⟩,l) q)(hs:nm.size<=64):Calls prog 43 #[.agg (ecl ⟨2,nm,nms,vn,val⟩ q)] w fun e w'=>bE [mk [46],de (bl nm)] w e w':=by
 obtain⟨x1,y1,z1,x2,y2,z2,x3,y3,z3,x4,y4,z4,aK⟩:=hr.shape;subst aK;have X0:=aa (bC w ⟨2,nm,nms,vn,val⟩ ⟨.slice x1 y1 z1,.slice x2 y2 z2,.slice x3 y3 z3,.slice x4 y4 z4⟩);have B0:=tk_bo (w:=w);have hn:=aa (fun W (hb:Below w.heap.size w W)=>lU nm W hs);clear hr hs;obtain⟨T,hT⟩:∃T,de (bl nm)=T:=⟨_,rfl⟩
 rw[hT]at hn ⊢;clear hT;unfold ecl at X0 ⊢
 dsimp only at X0 ⊢
 unfold dO at hn;go_enter func43,ntmps43;go_wp2_with fail
 have c0:=oA X0.out
 dsimp only at c0
 go_region_held3 (fun W=>W.cell? ⟨w.heap.size,1,none⟩=some (.string nm)) (first|(refine oA (h:=⟨2,nm,nms,vn,val⟩) (q:=⟨.slice x1 y1 z1,.slice x2 y2 z2,.slice x3 y3 z3,.slice x4 y4 z4⟩) ?_;(repeat (first|with_reducible (exact X0.out)|with_reducible (exact X1.out)|with_reducible (exact X2.out)|with_reducible (exact X3.out)|with_reducible (refine Ex.dr ?_)|with_reducible (refine Ex.al ?_))))) (first|(go_at_call 88;refine(cH _ _).mono ?_;rintro e w1 ⟨rfl,ai⟩;have B1:=aa (ac (B0.out _).drew ai);have X1:=aa (X0.out.dr.below ai);clear ai)|(go_at_call 89;refine(hn.out _ B1.out).mono ?_;rintro e w2 ⟨rfl,aq⟩;have B2:=aa (ac B1.out aq);have X2:=aa (X1.out.below aq);clear aq))
 go_wp2_with fail
 go_ret;exact⟨_,rfl,fg w2 w.heap.size (mk [46]) T B2.out.size,B2.out.alloc B2.out.size _⟩
theorem Ob(hr:RE (n+1) w (⟨5,nm,nms,vn,val⟩,l) q)(hs:nm.size<=64):Calls prog 43 #[.agg (ecl ⟨5,nm,nms,vn,val⟩ q)] w fun e w'=>bE [wd [116,97,103],de (bl nm)] w e w':=by
 obtain⟨x1,y1,z1,x2,y2,z2,x3,y3,z3,x4,y4,z4,aK⟩:=hr.shape;subst aK;have X0:=aa (bC w ⟨5,nm,nms,vn,val⟩ ⟨.slice x1 y1 z1,.slice x2 y2 z2,.slice x3 y3 z3,.slice x4 y4 z4⟩);have B0:=tk_bo (w:=w);have hn:=aa (fun W (hb:Below w.heap.size w W)=>lU nm W hs);clear hr hs;obtain⟨T,hT⟩:∃T,de (bl nm)=T:=⟨_,rfl⟩
 rw[hT]at hn ⊢;clear hT;unfold ecl at X0 ⊢
 dsimp only at X0 ⊢
 unfold dO at hn;go_enter func43,ntmps43;go_wp2_with fail
 have c0:=oA X0.out
 dsimp only at c0
 go_region_held3 (fun W=>W.cell? ⟨w.heap.size,1,none⟩=some (.string nm)) (first|(refine oA (h:=⟨5,nm,nms,vn,val⟩) (q:=⟨.slice x1 y1 z1,.slice x2 y2 z2,.slice x3 y3 z3,.slice x4 y4 z4⟩) ?_;(repeat (first|with_reducible (exact X0.out)|with_reducible (exact X1.out)|with_reducible (exact X2.out)|with_reducible (exact X3.out)|with_reducible (refine Ex.dr ?_)|with_reducible (refine Ex.al ?_))))) (first|(go_at_call 91;refine(dI _ _).mono ?_;rintro e w1 ⟨rfl,ai⟩;have B1:=aa (ac (B0.out _).drew ai);have X1:=aa (X0.out.dr.below ai);clear ai)|(go_at_call 89;refine(hn.out _ B1.out).mono ?_;rintro e w2 ⟨rfl,aq⟩;have B2:=aa (ac B1.out aq);have X2:=aa (X1.out.below aq);clear aq))
 go_wp2_with fail
 go_ret;exact⟨_,rfl,fg w2 w.heap.size (wd [116,97,103]) T B2.out.size,B2.out.alloc B2.out.size _⟩
theorem NZ(hk:jI (aI vn val).kind)(hr:RE (n+1) w (⟨7,nm,nms,vn,val⟩,l) q)(hv:(aI vn val).kind=3->eI (aI vn val).neg (aI vn val).dig (aI vn val).exp=true):Calls prog 43 #[.agg (ecl ⟨7,nm,nms,vn,val⟩ q)] w fun e w'=>bE [wd [99,111,110,115,116],tW (aI vn val)] w e w':=by
 obtain⟨x1,y1,z1,x2,y2,z2,x3,y3,z3,x4,y4,z4,aK⟩:=hr.shape;subst aK;have X0:=aa (bC w ⟨7,nm,nms,vn,val⟩ ⟨.slice x1 y1 z1,.slice x2 y2 z2,.slice x3 y3 z3,.slice x4 y4 z4⟩);have B0:=tk_bo (w:=w);have hn:=aa (fun W (hb:Below w.heap.size w W)=>wy (aI vn val) x3 y3 z3 x4 y4 z4 W hk hv);clear hr hv hk;obtain⟨h,hh⟩:∃h,aI vn val=h:=⟨_,rfl⟩
 unfold ecl at X0 ⊢
 dsimp only at X0 ⊢
 have c0:=zD X0.out
 dsimp only at c0
 obtain⟨T,hT⟩:∃T,tW (aI vn val)=T:=⟨_,rfl⟩
 rw[hT]at hn ⊢;clear hT hh;unfold dO aP at hn;go_enter func43,ntmps43;go_wp2_with fail
 go_region_held3 (fun W=>W.cell? ⟨w.heap.size,4,none⟩=some (.int .i64 (aI vn val).kind)/\W.cell? ⟨w.heap.size,5,none⟩=some (.bool (aI vn val).flag)/\W.cell? ⟨w.heap.size,6,none⟩=some (.bool (aI vn val).neg)/\W.cell? ⟨w.heap.size,7,none⟩=some (.string (aI vn val).dig)/\W.cell? ⟨w.heap.size,8,none⟩=some (.int .i64 (aI vn val).exp)/\W.cell? ⟨w.heap.size,9,none⟩=some (.int .u64 (aI vn val).bits)/\W.cell? ⟨w.heap.size,10,none⟩=some (.string (aI vn val).text)/\W.cell? ⟨w.heap.size,11,none⟩=some (.slice x3 y3 z3)/\W.cell? ⟨w.heap.size,12,none⟩=some (.slice x4 y4 z4)) (first|(refine zD (h:=⟨7,nm,nms,vn,val⟩) (q:=⟨.slice x1 y1 z1,.slice x2 y2 z2,.slice x3 y3 z3,.slice x4 y4 z4⟩) ?_;(repeat (first|with_reducible (exact X0.out)|with_reducible (exact X1.out)|with_reducible (exact X2.out)|with_reducible (exact X3.out)|with_reducible (refine Ex.dr ?_)|with_reducible (refine Ex.al ?_))))) (first|(go_at_call 91;refine(dI _ _).mono ?_;rintro e w1 ⟨rfl,ai⟩;have B1:=aa (ac (B0.out _).drew ai);have X1:=aa (X0.out.dr.below ai);clear ai)|(go_at_call 92;refine(hn.out _ B1.out).mono ?_;rintro e w2 ⟨rfl,aq⟩;have B2:=aa (ac B1.out aq);have X2:=aa (X1.out.below aq);clear aq))
 go_wp2_with fail
 go_ret;exact⟨_,rfl,fg w2 w.heap.size (wd [99,111,110,115,116]) T B2.out.size,B2.out.alloc B2.out.size _⟩
theorem Od(ih:vJ n)(hr:RE (n+1) w (⟨3,nm,nms,vn,val⟩,l) q)(aL:nms.length=l.length)(Fe:∀s∈nms,s.size<=64)(lp:∀y∈l,mo n y/\aM n y<=512)(nT:l.length<=100000)(hz:(io [61] nms (l.map (bp n))).length<=1000000):Calls prog 43 #[.agg (ecl ⟨3,nm,nms,vn,val⟩ q)] w fun e w'=>bE (io [61] nms (l.map (bp n))) w e w':=by
 obtain⟨x1,y1,z1,x2,y2,z2,x3,y3,z3,x4,y4,z4,aK⟩:=hr.shape;have hp:=aa (fun W (hb:Below w.heap.size w W)=>pD ih ⟨3,nm,nms,vn,val⟩ l q W (hr.below hb) aL Fe lp nT hz);subst aK;have X0:=aa (ft w ⟨3,nm,nms,vn,val⟩ ⟨.slice x1 y1 z1,.slice x2 y2 z2,.slice x3 y3 z3,.slice x4 y4 z4⟩);have b0:=aa (ab (o:=.cells (ecl ⟨3,nm,nms,vn,val⟩ ⟨.slice x1 y1 z1,.slice x2 y2 z2,.slice x3 y3 z3,.slice x4 y4 z4⟩) 33) (Below.refl w.heap.size w));have Js:=aa hz;obtain⟨T,hT⟩:∃T,io [61] nms (l.map (bp n))=T:=⟨_,rfl⟩
 rw[hT]at hp Js ⊢;clear hr aL Fe lp nT hz hT;have c0:=X0.out.cells;unfold bE at hp;unfold ecl at c0 b0 X0 hp ⊢
 dsimp only at c0 b0 X0 hp ⊢
 go_enter func43,ntmps43;go_wp2_with(go_at_call 90;refine ak.out ?_)
 refine ak.mk ((hp.out _ b0.out).mono ?_);rintro e w1 ⟨v1,rfl,tU,ai⟩;have O1:=aa tU;have B1:=aa (ac b0.out ai);have s1:=b0.out.size;clear ai c0 X0 tU;go_wp2_with fail
 go_ret;exact⟨_,rfl,O1.out.low s1,B1.out⟩
theorem Oa(ih:vJ n)(hr:RE (n+1) w (⟨6,nm,nms,vn,val⟩,l) q)(aL:nms.length=l.length)(Fe:∀s∈nms,s.size<=64)(lp:∀y∈l,mo n y/\aM n y<=512)(nT:l.length<=100000)(hz:(io [61] nms (l.map (bp n))).length<=1000000):Calls prog 43 #[.agg (ecl ⟨6,nm,nms,vn,val⟩ q)] w fun e w'=>bE (wd [99,97,115,101]::io [61] nms (l.map (bp n))) w e w':=by
 obtain⟨x1,y1,z1,x2,y2,z2,x3,y3,z3,x4,y4,z4,aK⟩:=hr.shape;have hp:=aa (fun W (hb:Below w.heap.size w W)=>pD ih ⟨6,nm,nms,vn,val⟩ l q W (hr.below hb) aL Fe lp nT hz);subst aK;have X0:=aa (ft w ⟨6,nm,nms,vn,val⟩ ⟨.slice x1 y1 z1,.slice x2 y2 z2,.slice x3 y3 z3,.slice x4 y4 z4⟩);have b0:=aa (ab (o:=.cells (ecl ⟨6,nm,nms,vn,val⟩ ⟨.slice x1 y1 z1,.slice x2 y2 z2,.slice x3 y3 z3,.slice x4 y4 z4⟩) 33) (Below.refl w.heap.size w));have Js:=aa hz;obtain⟨T,hT⟩:∃T,io [61] nms (l.map (bp n))=T:=⟨_,rfl⟩
 rw[hT]at hp Js ⊢;clear hr aL Fe lp nT hz hT;have c0:=X0.out.cells;unfold bE at hp;unfold ecl at c0 b0 X0 hp ⊢
 dsimp only at c0 b0 X0 hp ⊢
 go_enter func43,ntmps43;go_wp2_with(go_at_call 91;refine ak.out ?_)
 refine ak.mk ((dI _ _).mono ?_);rintro e w1 ⟨rfl,ai⟩;have B1:=aa (ac b0.out ai);have X1:=aa (X0.out.below ai);have s1:w.heap.size+1<=w1.heap.size:=X1.out.lt;have M1:Hid (OT (w1.alloc (.cells #[.int .i64 1,.string ⟨#[99,97,115,101]⟩,.int .i64 0] 88)) (w.heap.size+1) (.slice (some ⟨w1.heap.size,0,none⟩) 1 1) [wd [99,97,115,101]]):=bv w1 (w.heap.size+1) (wd [99,97,115,101]) s1;have X2:=aa (X1.out.below (ab (o:=.cells #[.int .i64 1,.string ⟨#[99,97,115,101]⟩,.int .i64 0] 88) af));have B2:=aa (B1.out.alloc B1.out.size (.cells #[.int .i64 1,.string ⟨#[99,97,115,101]⟩,.int .i64 0] 88));clear ai c0 X0 B1 X1;go_wp2_with(at_builtin;refine ak.out ?_)
 refine ak.mk ?_;refine aZ rfl (.tmp 45) (.tmp 47) rfl (w.heap.size+1) (.slice none 0 0) [] rfl (OT.nil _ _) (w.heap.size+1) (.slice (some ⟨w1.heap.size,0,none⟩) 1 1) [wd [99,97,115,101]] rfl M1.out (by simp) X2.out.lt ?_;intro ua un uc w2 o2 aq;have B3:=aa (B2.out.trans (aq.out.mono (by omega)));have X3:Hid (Ex w2 w.heap.size ⟨6,nm,nms,vn,val⟩ ⟨.slice x1 y1 z1,.slice x2 y2 z2,.slice x3 y3 z3,.slice x4 y4 z4⟩):=⟨(aq.out.block w.heap.size (by omega)).trans X2.out.at_⟩
 have c3:=X3.out.cells
 dsimp only at c3
 clear B2 X2 M1 aq;go_wp2_with(go_at_call 90;refine ak.out ?_)
 refine ak.mk ((hp.out _ B3.out).mono ?_);rintro e w4 ⟨v4,rfl,Cd,aO⟩;have O4:=aa Cd;have o5:=aa (o2.out.below aO);have B4:=aa (ac B3.out aO);have s4:w.heap.size+1<=w4.heap.size:=Nat.le_trans X3.out.lt aO.size;clear Cd aO o2 c3 X3;go_wp2_with(at_builtin;refine ak.out ?_)
 refine ak.mk ?_;refine aZ rfl (.tmp 49) (.tmp 51) rfl (w.heap.size+1) (.slice ua un uc) ([]++[wd [99,97,115,101]]) rfl o5.out w2.heap.size v4 T rfl O4.out (by have:=Js.out;simp;omega) s4 ?_;intro va vn9 vc w5 o6 bg;have B5:=aa (B4.out.trans (bg.out.mono (by omega)));go_wp2_with fail
 go_ret;refine⟨_,rfl,?_,B5.out⟩;have:=o6.out.low (C:=w.heap.size) (by omega)
 simpa using this
theorem Oc(ih:vJ n)(hr:RE (n+1) w (⟨4,nm,nms,vn,val⟩,l) q)(h1:l.length=1)(lp:∀y∈l,mo n y/\aM n y<=512)(hz:(fM [91] ((l.map (bp n)).headD []) [93]).length<=1000000):Calls prog 43 #[.agg (ecl ⟨4,nm,nms,vn,val⟩ q)] w fun e w'=>bE (fM [91] ((l.map (bp n)).headD []) [93]) w e w':=by
 obtain⟨y0,rfl⟩:∃y,l=[y]:=by
  match l,h1 with
  | [y],_=>exact⟨y,rfl⟩
 obtain⟨lb,lo,lc9,cd,ic,lm,ni,q2,bT,bf⟩:=hr.tl.at 0 (by simp);simp only[List.map_cons,List.map_nil,List.headD_cons,List.getElem_cons_zero,Nat.zero_mul,Nat.add_zero]at hz bT bf ⊢;have nS:Hid ((bp n y0).length<=1000000):=by show _<=_;simp only[fM,List.length_cons,List.length_append]at hz;omega
 obtain⟨x1,y1,z1,x2,y2,z2,x3,y3,z3,x4,y4,z4,aK⟩:=hr.shape;subst aK;obtain⟨rfl,rfl,rfl⟩:=Value.slice.inj cd;obtain⟨b1,b2,b3,b4,b5,b6,b7,b8,b9,b10,b11,b12,aK⟩:=bf.shape;subst aK;have hcall:=aa (fun W (hb:Below w.heap.size w W)=>ih y0 _ W (bf.below hb) (lp y0 (by simp)).1 (lp y0 (by simp)).2);have X0:=aa (ft w ⟨4,nm,nms,vn,val⟩ ⟨.slice x1 y1 z1,.slice (some ⟨lb,lo,none⟩) [y0].length z2,.slice x3 y3 z3,.slice x4 y4 z4⟩);have b0:=aa (ab (o:=.cells (ecl ⟨4,nm,nms,vn,val⟩ ⟨.slice x1 y1 z1,.slice (some ⟨lb,lo,none⟩) [y0].length z2,.slice x3 y3 z3,.slice x4 y4 z4⟩) 33) (Below.refl w.heap.size w));have e1:[y0].length=1:=rfl;rw[e1]at X0 b0 ⊢;have nh:=aa bT;have SO:=aa ic;have Wb:1<=z2:=by simpa using lm
 obtain⟨y,hy⟩:∃y,ehd n y0=y:=⟨_,rfl⟩
 obtain⟨M,hM⟩:∃M,bp n y0=M:=⟨_,rfl⟩
 rw[hy]at hcall nh;rw[hM]at hcall nS ⊢;clear hr lp hz bT bf cd lm hy hM ic e1 h1;have c0:=X0.out.cells;unfold bE at hcall;unfold ecl at c0 b0 X0 hcall ⊢
 dsimp only at c0 b0 X0 hcall ⊢
 go_enter func43,ntmps43;go_wp2_with(go_at_call 88;refine ak.out ?_)
 refine ak.mk ((cH _ _).mono ?_);rintro e w1 ⟨rfl,ai⟩;have B1:=aa (ac b0.out ai);have X1:=aa (X0.out.below ai);have s1:w.heap.size+1<=w1.heap.size:=X1.out.lt;have M1:=aa (lD w1 (w.heap.size+1) 91 s1);have X2:=aa (X1.out.below (ab (o:=.cells #[.int .i64 4,.string ⟨#[91]⟩,.int .i64 0] 88) af));have B2:=aa (B1.out.alloc B1.out.size (.cells #[.int .i64 4,.string ⟨#[91]⟩,.int .i64 0] 88));clear ai c0 X0 B1 X1;go_wp2_with(at_builtin;refine ak.out ?_)
 refine ak.mk ?_;refine aZ rfl (.tmp 21) (.tmp 23) rfl (w.heap.size+1) (.slice none 0 0) [] rfl (OT.nil _ _) (w.heap.size+1) (.slice (some ⟨w1.heap.size,0,none⟩) 1 1) [mk [91]] rfl M1.out (by simp) X2.out.lt ?_;intro ua un uc w2 o2 aq;have B3:=aa (B2.out.trans (aq.out.mono (by omega)));have X3:Hid (Ex w2 w.heap.size ⟨4,nm,nms,vn,val⟩ ⟨.slice x1 y1 z1,.slice (some ⟨lb,lo,none⟩) 1 z2,.slice x3 y3 z3,.slice x4 y4 z4⟩):=⟨(aq.out.block w.heap.size (by omega)).trans X2.out.at_⟩
 have c3:=X3.out.cells
 dsimp only at c3
 have r3:=bJ (am nh.out B3.out SO.out)
 dsimp only at r3
 clear B2 X2 M1 aq;go_wp2_with(go_at_call 43;refine ak.out ?_)
 refine ak.mk ((hcall.out _ B3.out).mono ?_);rintro e w4 ⟨v4,rfl,Cd,aO⟩;have O4:=aa Cd;have o5:=aa (o2.out.below aO);have B4:=aa (ac B3.out aO);have X4:=aa (X3.out.below aO);clear Cd aO o2 c3 X3 r3;go_wp2_with(at_builtin;refine ak.out ?_)
 refine ak.mk ?_;refine aZ rfl (.tmp 25) (.tmp 30) rfl (w.heap.size+1) (.slice ua un uc) ([]++[mk [91]]) rfl o5.out w2.heap.size v4 M rfl O4.out (by have:=nS.out;simp;omega) X4.out.lt ?_;intro va vn9 vc w5 o6 bg;have B5:=aa (B4.out.trans (bg.out.mono (by omega)));have s5:w.heap.size+1<=w5.heap.size:=Nat.le_trans X4.out.lt bg.out.size;clear bg O4 o5 X4;go_wp2_with(go_at_call 88;refine ak.out ?_)
 refine ak.mk ((cH _ _).mono ?_);rintro e w6 ⟨rfl,da⟩;have B6:=aa (ac B5.out da);have s6:w.heap.size+1<=w6.heap.size:=Nat.le_trans s5 da.size;have M6:=aa (lD w6 (w.heap.size+1) 93 s6);have O6:=aa ((o6.out.below da).below (ab (o:=.cells #[.int .i64 4,.string ⟨#[93]⟩,.int .i64 0] 88) af));have B7:=aa (B6.out.alloc B6.out.size (.cells #[.int .i64 4,.string ⟨#[93]⟩,.int .i64 0] 88));clear da o6 B6;go_wp2_with(at_builtin;refine ak.out ?_)
 refine ak.mk ?_;refine aZ rfl (.tmp 32) (.tmp 34) rfl (w.heap.size+1) (.slice va vn9 vc) ([]++[mk [91]]++M) rfl O6.out (w.heap.size+1) (.slice (some ⟨w6.heap.size,0,none⟩) 1 1) [mk [93]] rfl M6.out (by have:=nS.out;simp;omega) (by simp only[World.size_alloc];omega) ?_;intro wa wn wc w7 o7 jO;have B8:=aa (B7.out.trans (jO.out.mono (by omega)));go_wp2_with fail
 go_ret;refine⟨_,rfl,?_,B8.out⟩;have:=o7.out.low (C:=w.heap.size) (by omega)
 simpa [fM] using this
end
variable {dq : {_f : (p : Prop) → Decidable p // True}}
structure PQ(w:World)(h:Eh)(q:Sl)(lb lo:Nat)(y:Eh)(qy:Sl)(W:World):Prop where
 bel:Below w.heap.size w W
 ex:Ex W w.heap.size h q
 yr:W.rangeAt lb lo (ecl y qy).toList
 yl:lb<w.heap.size
section
variable {w : World} {h : Eh} {q : Sl} {lb lo : Nat} {y : Eh} {qy : Sl} {W W1 : World}
theorem PQ.to(H:PQ w h q lb lo y qy W)(hb:Below (w.heap.size+1) W W1):PQ w h q lb lo y qy W1 :=
 ⟨H.bel.trans (hb.mono (by omega)),⟨(hb.block w.heap.size (by omega)).trans H.ex.at_⟩,fun j v hj=>(World.cell?_of_block (hb.block lb (by have:=H.yl;omega))).trans (H.yr j v hj),H.yl⟩
theorem PQ.sz(H:PQ w h q lb lo y qy W):w.heap.size+1<=W.heap.size:=H.ex.lt
theorem PQ.up(H:PQ w h q lb lo y qy W)(hb:Below W.heap.size W W1):PQ w h q lb lo y qy W1:=H.to (hb.mono H.sz)
theorem PQ.al{ob:Obj}(H:PQ w h q lb lo y qy W):PQ w h q lb lo y qy (W.alloc ob):=H.up (ab af)
end
section
theorem uK{W W':World}{B C:Nat}{v u:Value}{l m:List Tk}(h:OT W C v m)(hu:OT W B u l)(hf:Hid (∀k,k<W.heap.size->u.ownBlock≠some k->W'.heap[k]?=W.heap[k]?))(hn:∀g,v.ownBlock=some g->u.ownBlock=some g->False):OT W' C v m:=by
 refine⟨h.1,?_⟩;rcases h.2 with h0|⟨g,cap,cur,rfl,h1,h2,h3⟩
 ·exact Or.inl h0
 exact Or.inr ⟨g,cap,cur,rfl,h1,(hf.out g (World.ownsRow.lt h g rfl).2 fun e=>hn g rfl e).trans h2,h3⟩
variable {n : Nat} {nm : ByteArray} {nms : List ByteArray} {vn : Nat} {val : VT vn} {l : List (ET n)} {q : Sl} {w : World}
theorem Kl(ih:vJ n)(hr:RE (n+1) w (⟨12,nm,nms,vn,val⟩,l) q)(lp:∀y∈l,mo n y/\aM n y<=512)(nT:l.length<=100000)(hz:(aU (mk [59]) (l.map (jV n))).length<=1000000):Calls prog 43 #[.agg (ecl ⟨12,nm,nms,vn,val⟩ q)] w fun e w'=>bE (aU (mk [59]) (l.map (jV n))) w e w':=by
 obtain⟨al,cl,cd,bB,br⟩:=hr.tl.len;obtain⟨x1,y1,z1,x2,y2,z2,x3,y3,z3,x4,y4,z4,aK⟩:=hr.shape;subst aK;obtain⟨rfl,rfl,rfl⟩:=Value.slice.inj cd;clear cd;simp only at bB br;show Calls _ _ #[.agg (ecl ⟨12,nm,nms,vn,val⟩ ⟨.slice x1 y1 z1,.slice x2 l.length z2,.slice x3 y3 z3,.slice x4 y4 z4⟩)] _ _;obtain⟨I,hI⟩:∃I,l.map (jV n)=I:=⟨_,rfl⟩
 have zz:I.length=l.length:=by rw[<-hI];simp
 have vr:Hid (∀k (h2:k<l.length) (h3:k<I.length),I[k]=jV n l[k]):=fun k h2 h3=>by subst hI;simp
 rw[hI]at hz ⊢;have eR:=aa hz;obtain⟨N,gl⟩:∃N,l.length=N:=⟨_,rfl⟩
 have Ri:N<=100000:=by omega
 have sP:Hid (l.length=N):=gl;have eB:Hid (I.length=N):=zz.trans gl;have HR:=aa hr;have HC:=aa lp;have IH:=aa ih;have X0:=aa (ft w ⟨12,nm,nms,vn,val⟩ ⟨.slice x1 y1 z1,.slice x2 l.length z2,.slice x3 y3 z3,.slice x4 y4 z4⟩);have b0:=aa (ab (o:=.cells (ecl ⟨12,nm,nms,vn,val⟩ ⟨.slice x1 y1 z1,.slice x2 l.length z2,.slice x3 y3 z3,.slice x4 y4 z4⟩) 33) (Below.refl w.heap.size w));rw[sP.out]at bB;simp only[sP.out]at X0 b0 ⊢;clear hz hr ih lp zz hI gl nT;obtain⟨vv,kB⟩:∃vv,aI vn val=vv:=⟨_,rfl⟩
 have c0:=X0.out.cells;unfold ecl at X0 b0 c0 ⊢;simp only[kB]at X0 b0 c0 ⊢;have ep:=aa kB;clear kB;go_enter func43,ntmps43;go_wp2_with fail
 clear c0;go_loopw [3,4,5] (fun t i _ W=>∃k2:Nat,i=.int .i64 k2/\k2<=N/\Hid (OT W (w.heap.size+1) t (aU (mk [59]) (I.take k2))/\Below w.heap.size w W/\Ex W w.heap.size ⟨12,nm,nms,vn,val⟩ ⟨.slice x1 y1 z1,.slice x2 N z2,.slice x3 y3 z3,.slice x4 y4 z4⟩)) (fun _ i _ _=>N-(intOf i).toNat)
 case atStart=>exact⟨0,rfl,Nat.zero_le _,by simpa [aU] using OT.nil _ _,b0.out,X0.out⟩
 case round=>
  clear X0 b0;obtain⟨k2,rfl,nU,H⟩:=hrel;have O0:=aa H.out.1;have B0:=aa H.out.2.1;have X0:=aa H.out.2.2;obtain⟨ta,tc,rfl⟩:=H.out.1.shape;have dP:Hid ((aU (mk [59]) (I.take k2)).length<=1000000):=by show _<=_;exact Nat.le_trans (jh _ _ _) eR.out
  clear H;by_cases ix:k2<N
  ·have bF:(k2:Int)<(N:Int):=by omega
   have aE:k2<l.length:=by rw[sP.out];exact ix
   have EI:k2<I.length:=by rw[eB.out];exact ix
   have zu:=aa (vr.out k2 aE EI);have cb:=aa (dY (mk [59]) I k2 EI);have oM:Hid ((jV n (l[k2]'(aE))).length<=1000000):=by have h1:=mK (mk [59]) I k2 EI;rw[zu.out]at h1;have:=eR.out;show _<=_;omega
   obtain⟨lb,lo,lc9,cd,ic,lm,ni,qy,bT,bf⟩:=HR.out.tl.at k2 aE;simp only[sP.out]at cd;obtain⟨rfl, -,rfl⟩:=Value.slice.inj cd;clear cd lm ni;obtain⟨b1,b2,b3,b4,b5,b6,b7,b8,b9,b10,b11,b12,aK⟩:=bf.shape;subst aK;have hcall:=aa (fun W (hb:Below w.heap.size w W)=>IH.out (l[k2]'(aE)) _ W (bf.below hb) (HC.out _ (List.getElem_mem _)).1 (HC.out _ (List.getElem_mem _)).2);have jo:Hid (jV n (l[k2]'(aE))=if (ehd n (l[k2]'(aE))).op=12 then fM [40] (bp n (l[k2]'(aE))) [41] else bp n (l[k2]'(aE))):=rfl;simp only at bT;obtain⟨y,hy⟩:∃y,ehd n (l[k2]'(aE))=y:=⟨_,rfl⟩
   obtain⟨M,hM⟩:∃M,bp n (l[k2]'(aE))=M:=⟨_,rfl⟩
   obtain⟨Q,hQ⟩:∃M,jV n (l[k2]'(aE))=M:=⟨_,rfl⟩
   rw[hy]at hcall bT jo;rw[hM]at hcall jo;rw[hQ]at jo zu oM;have P0:=aa (PQ.mk (w:=w) B0.out X0.out (am bT B0.out ic) ic);unfold bE at hcall;unfold ecl at hcall;simp only at hcall;clear hy hM hQ bT bf B0 X0 ic;have c0:=P0.out.ex.cells;simp only[ep.out]at c0;by_cases eM:k2=0
   ·have nj:¬(0:Int)<(k2:Int):=by omega
    have jW:Hid (aU (mk [59]) (I.take (k2+1))=Q):=by show _=_;rw[cb.out,if_pos eM,zu.out]
    have ek:aU (mk [59]) (I.take k2)=[]:=by rw[eM];simp[aU]
    have el:(aU (mk [59]) (I.take k2)).length=0:=by rw[ek];rfl
    rw[ek]at O0;have e1:([]:List Tk).length=0:=rfl;rw[e1]at O0;rw[el];have hL:Hid (([]:List Tk).length<=1000100):=by show _<=_;simp
    clear cb dP zu ek el e1 eM EI aE;obtain⟨L0,vq⟩:∃L,([]:List Tk)=L:=⟨_,rfl⟩
    have sX:=aa vq;rw[vq]at O0 hL;clear vq;have O00:=aa O0.out;have r0:=bJ P0.out.yr;simp only at r0;go_wp2_with(go_at_call 43;refine ak.out ?_)
    refine ak.mk ((hcall.out _ P0.out.bel).mono ?_);rintro e w6 ⟨v6,rfl,Fb,da⟩;have P8:=aa (P0.out.up da);have O8:=aa (O0.out.below da);have O6:=aa Fb;have c8:=P8.out.ex.cells;simp only[ep.out]at c8;have r8:=bJ P8.out.yr;simp only at r8;clear da Fb P0 O0 c0 r0;by_cases iK:y.op=12
    ·have es:Hid (Q=fM [40] M [41]):=by show _=_;rw[jo.out,if_pos iK]
     have PB:Hid (M.length<=1000000):=by have h1:=oM.out;rw[es.out]at h1;show _<=_;simp only[fM,List.length_cons,List.length_append]at h1;omega
     rw[iK]at r8;clear jo iK hcall;go_wp2_with(go_at_call 88;refine ak.out ?_)
     refine ak.mk ((cH _ _).mono ?_);rintro e w7 ⟨rfl,jO⟩;have P9:=aa (P8.out.up jO);have M9:=aa (lD w7 (w.heap.size+1) 40 P9.out.sz);have O9:=aa ((O8.out.below jO).below (ab (o:=.cells #[.int .i64 4,.string ⟨#[40]⟩,.int .i64 0] 88) af));have V9:=aa ((O6.out.below jO).below (ab (o:=.cells #[.int .i64 4,.string ⟨#[40]⟩,.int .i64 0] 88) af));have vlt:=aa O6.out;have P10:=aa (P9.out.al (ob:=.cells #[.int .i64 4,.string ⟨#[40]⟩,.int .i64 0] 88));clear jO P8 O8 P9 c8 r8;go_wp2_with(at_builtin;refine ak.out ?_)
     refine ak.mk ?_;refine nu rfl (.tmp 88) (.tmp 90) rfl (w.heap.size+1) (.slice ta 0 tc) L0 rfl O9.out (w.heap.size+1) (.slice (some ⟨w7.heap.size,0,none⟩) 1 1) [mk [40]] rfl M9.out (by have:=hL.out;simp;omega) P10.out.sz ?_;intro va vn9 vc w8 o8 jr dL;have P11:=aa (P10.out.to jr.out);have V11:Hid (OT w8 wr.heap.size v6 M):=uK V9.out O9.out dL (fun g h1 h2=>by have a:=(World.ownsRow.lt vlt.out g h1).1;have b:=(World.ownsRow.lt O00.out g h2).2;omega);clear jr P10 O9 M9 V9 dL vlt;go_wp2_with(at_builtin;refine ak.out ?_)
     refine ak.mk ?_;refine aZ rfl (.tmp 92) (.tmp 93) rfl (w.heap.size+1) (.slice va vn9 vc) (L0++[mk [40]]) rfl o8.out wr.heap.size v6 M rfl V11.out (by have h1:=hL.out;have h2:=PB.out;simp;omega) P11.out.sz ?_;intro xa xn xc w9 o9 qa;have P12:=aa (P11.out.to qa.out);clear qa P11 o8 V11;go_wp2_with(go_at_call 88;refine ak.out ?_)
     refine ak.mk ((cH _ _).mono ?_);rintro e w10 ⟨rfl,xG⟩;have P13:=aa (P12.out.up xG);have M13:=aa (lD w10 (w.heap.size+1) 41 P13.out.sz);have O13:=aa ((o9.out.below xG).below (ab (o:=.cells #[.int .i64 4,.string ⟨#[41]⟩,.int .i64 0] 88) af));have P14:=aa (P13.out.al (ob:=.cells #[.int .i64 4,.string ⟨#[41]⟩,.int .i64 0] 88));clear xG P12 P13 o9;go_wp2_with(at_builtin;refine ak.out ?_)
     refine ak.mk ?_;refine aZ rfl (.tmp 95) (.tmp 97) rfl (w.heap.size+1) (.slice xa xn xc) (L0++[mk [40]]++M) rfl O13.out (w.heap.size+1) (.slice (some ⟨w10.heap.size,0,none⟩) 1 1) [mk [41]] rfl M13.out (by have h1:=hL.out;have h2:=PB.out;simp;omega) P14.out.sz ?_;intro fa fn9 fc w11 o11 Mn;have P15:=aa (P14.out.to Mn.out);go_wp2_with fail
     refine⟨⟨k2+1,by go_num,by omega,?_,P15.out.bel,P15.out.ex⟩,by simp[intOf];omega⟩;have:=o11.out;rw[jW.out,es.out];rw[<-sX.out]at this
     simpa [fM] using this
    have es:Hid (Q=M):=by show _=_;rw[jo.out,if_neg iK]
    have h12b:(y.op==12)=false:=by simp[iK]
    clear jo iK hcall;go_wp2_with(at_builtin;refine ak.out ?_)
    refine ak.mk ?_;refine aZ rfl (.tmp 99) (.tmp 100) rfl (w.heap.size+1) (.slice ta 0 tc) L0 rfl O8.out wr.heap.size v6 M rfl O6.out (by have h1:=hL.out;have h2:=oM.out;rw[es.out]at h2;omega) P8.out.sz ?_;intro va vn9 vc w8 o8 jr;have P11:=aa (P8.out.to jr.out);go_wp2_with fail
    refine⟨⟨k2+1,by go_num,by omega,?_,P11.out.bel,P11.out.ex⟩,by simp[intOf];omega⟩;have:=o8.out;rw[jW.out,es.out];rw[<-sX.out]at this
    simpa using this
   have nj:(0:Int)<(k2:Int):=by omega
   have jW:Hid (aU (mk [59]) (I.take (k2+1))=aU (mk [59]) (I.take k2)++mk [59]::Q):=by show _=_;rw[cb.out,if_neg eM,zu.out]
   obtain⟨L,vR⟩:∃L,aU (mk [59]) (I.take k2)=L:=⟨_,rfl⟩
   have Ir:Hid (L.length<=1000001):=by show _<=_;rw[<-vR];have:=dP.out;omega
   rw[vR]at O0 jW ⊢;obtain⟨len,aL⟩:∃n,L.length=n:=⟨_,rfl⟩
   rw[aL]at O0 ⊢;clear vR cb dP zu eM aL EI aE;go_wp2_with(go_at_call 88;refine ak.out ?_)
   refine ak.mk ((cH _ _).mono ?_);rintro e w1 ⟨rfl,ai⟩;have P1:=aa (P0.out.up ai);have M1:=aa (lD w1 (w.heap.size+1) 59 P1.out.sz);have O1:=aa ((O0.out.below ai).below (ab (o:=.cells #[.int .i64 4,.string ⟨#[59]⟩,.int .i64 0] 88) af));have P2:=aa (P1.out.al (ob:=.cells #[.int .i64 4,.string ⟨#[59]⟩,.int .i64 0] 88));clear ai O0 P0 P1 c0;go_wp2_with(at_builtin;refine ak.out ?_)
   refine ak.mk ?_;refine aZ rfl (.tmp 71) (.tmp 73) rfl (w.heap.size+1) (.slice ta len tc) L rfl O1.out (w.heap.size+1) (.slice (some ⟨w1.heap.size,0,none⟩) 1 1) [mk [59]] rfl M1.out (by have:=Ir.out;simp;omega) P2.out.sz ?_;intro ua un uc w2 o2 aq;have P3:=aa (P2.out.to aq.out);have c0:=P3.out.ex.cells;simp only[ep.out]at c0;obtain⟨L0,vq⟩:∃K,L++[mk [59]]=K:=⟨_,rfl⟩
   have sX:=aa vq;have hL:Hid (L0.length<=1000100):=by show _<=_;rw[<-vq];have:=Ir.out;simp;omega
   rw[vq]at o2;clear aq P2 M1 O1 vq Ir;have O00:=aa o2.out;have r0:=bJ P3.out.yr;simp only at r0;go_wp2_with(go_at_call 43;refine ak.out ?_)
   refine ak.mk ((hcall.out _ P3.out.bel).mono ?_);rintro e w6 ⟨v6,rfl,Fb,da⟩;have P8:=aa (P3.out.up da);have O8:=aa (o2.out.below da);have O6:=aa Fb;have c8:=P8.out.ex.cells;simp only[ep.out]at c8;have r8:=bJ P8.out.yr;simp only at r8;clear da Fb P3 o2 c0 r0;by_cases iK:y.op=12
   ·have es:Hid (Q=fM [40] M [41]):=by show _=_;rw[jo.out,if_pos iK]
    have PB:Hid (M.length<=1000000):=by have h1:=oM.out;rw[es.out]at h1;show _<=_;simp only[fM,List.length_cons,List.length_append]at h1;omega
    rw[iK]at r8;clear jo iK hcall;go_wp2_with(go_at_call 88;refine ak.out ?_)
    refine ak.mk ((cH _ _).mono ?_);rintro e w7 ⟨rfl,jO⟩;have P9:=aa (P8.out.up jO);have M9:=aa (lD w7 (w.heap.size+1) 40 P9.out.sz);have O9:=aa ((O8.out.below jO).below (ab (o:=.cells #[.int .i64 4,.string ⟨#[40]⟩,.int .i64 0] 88) af));have V9:=aa ((O6.out.below jO).below (ab (o:=.cells #[.int .i64 4,.string ⟨#[40]⟩,.int .i64 0] 88) af));have vlt:=aa O6.out;have P10:=aa (P9.out.al (ob:=.cells #[.int .i64 4,.string ⟨#[40]⟩,.int .i64 0] 88));clear jO P8 O8 P9 c8 r8;go_wp2_with(at_builtin;refine ak.out ?_)
    refine ak.mk ?_;refine nu rfl (.tmp 88) (.tmp 90) rfl (w.heap.size+1) (.slice ua un uc) L0 rfl O9.out (w.heap.size+1) (.slice (some ⟨w7.heap.size,0,none⟩) 1 1) [mk [40]] rfl M9.out (by have:=hL.out;simp;omega) P10.out.sz ?_;intro va vn9 vc w8 o8 jr dL;have P11:=aa (P10.out.to jr.out);have V11:Hid (OT w8 w2.heap.size v6 M):=uK V9.out O9.out dL (fun g h1 h2=>by have a:=(World.ownsRow.lt vlt.out g h1).1;have b:=(World.ownsRow.lt O00.out g h2).2;omega);clear jr P10 O9 M9 V9 dL vlt;go_wp2_with(at_builtin;refine ak.out ?_)
    refine ak.mk ?_;refine aZ rfl (.tmp 92) (.tmp 93) rfl (w.heap.size+1) (.slice va vn9 vc) (L0++[mk [40]]) rfl o8.out w2.heap.size v6 M rfl V11.out (by have h1:=hL.out;have h2:=PB.out;simp;omega) P11.out.sz ?_;intro xa xn xc w9 o9 qa;have P12:=aa (P11.out.to qa.out);clear qa P11 o8 V11;go_wp2_with(go_at_call 88;refine ak.out ?_)
    refine ak.mk ((cH _ _).mono ?_);rintro e w10 ⟨rfl,xG⟩;have P13:=aa (P12.out.up xG);have M13:=aa (lD w10 (w.heap.size+1) 41 P13.out.sz);have O13:=aa ((o9.out.below xG).below (ab (o:=.cells #[.int .i64 4,.string ⟨#[41]⟩,.int .i64 0] 88) af));have P14:=aa (P13.out.al (ob:=.cells #[.int .i64 4,.string ⟨#[41]⟩,.int .i64 0] 88));clear xG P12 P13 o9;go_wp2_with(at_builtin;refine ak.out ?_)
    refine ak.mk ?_;refine aZ rfl (.tmp 95) (.tmp 97) rfl (w.heap.size+1) (.slice xa xn xc) (L0++[mk [40]]++M) rfl O13.out (w.heap.size+1) (.slice (some ⟨w10.heap.size,0,none⟩) 1 1) [mk [41]] rfl M13.out (by have h1:=hL.out;have h2:=PB.out;simp;omega) P14.out.sz ?_;intro fa fn9 fc w11 o11 Mn;have P15:=aa (P14.out.to Mn.out);go_wp2_with fail
    refine⟨⟨k2+1,by go_num,by omega,?_,P15.out.bel,P15.out.ex⟩,by simp[intOf];omega⟩;have:=o11.out;rw[jW.out,es.out];rw[<-sX.out]at this
    simpa [fM] using this
   have es:Hid (Q=M):=by show _=_;rw[jo.out,if_neg iK]
   have h12b:(y.op==12)=false:=by simp[iK]
   clear jo iK hcall;go_wp2_with(at_builtin;refine ak.out ?_)
   refine ak.mk ?_;refine aZ rfl (.tmp 99) (.tmp 100) rfl (w.heap.size+1) (.slice ua un uc) L0 rfl O8.out w2.heap.size v6 M rfl O6.out (by have h1:=hL.out;have h2:=oM.out;rw[es.out]at h2;omega) P8.out.sz ?_;intro va vn9 vc w8 o8 jr;have P11:=aa (P8.out.to jr.out);go_wp2_with fail
   refine⟨⟨k2+1,by go_num,by omega,?_,P11.out.bel,P11.out.ex⟩,by simp[intOf];omega⟩;have:=o8.out;rw[jW.out,es.out];rw[<-sX.out]at this
   simpa using this
  have bF:¬((k2:Int)<(N:Int)):=by omega
  have ek:Hid (I.take k2=I):=List.take_of_length_le (by have:=eB.out;omega);rw[ek.out]at O0 ⊢;obtain⟨len,aL⟩:∃n,(aU (mk [59]) I).length=n:=⟨_,rfl⟩
  rw[aL]at O0 ⊢;have c0:=X0.out.cells;simp only[ep.out]at c0;clear dP aL;go_wp2_with fail
  go_ret;exact⟨_,rfl,O0.out.low (by omega),B0.out⟩
end
theorem Al(n:Nat)(ih:vJ n):vJ (n+1):=by
 intro x q w hr hn hz;have hN:=hn.1;have LT:=hN.pre;have nT:x.2.length<=512:=by have:=iP (aM n) (kM n) x.2;simp only[aM]at hz;omega
 have lp:∀y∈x.2,mo n y/\aM n y<=512:=fun y hy=>⟨hn.2 y hy,by obtain⟨i,hi,rfl⟩:=List.mem_iff_getElem.1 hy;have:=iZ hi;omega⟩
 have aL:=kU (n+1) x;have AU:=hN.lf;obtain⟨bare,k4,k12,k7,kv,kw⟩:=hN;obtain⟨⟨k,nm,nms,vn,val⟩,l⟩:=x;obtain⟨p1,p2,p3,p4,p5,p6,p7,_⟩:=LT;simp only at p1 p2 p3 p4 p5 p6 p7 k7 lp nT k4 kv;show Calls _ _ #[.agg (ecl ⟨k,nm,nms,vn,val⟩ q)] _ _;have hk:k=1\/k=2\/k=3\/k=4\/k=5\/k=6\/k=7\/k=8\/k=9\/k=10\/k=11\/k=12:=by omega
 rcases hk with rfl|rfl|rfl|rfl|rfl|rfl|rfl|rfl|rfl|rfl|rfl|rfl
 ·have e:bp (n+1) (⟨1,nm,nms,vn,val⟩,l)=[wd [105,100]]:=by simp[bp,wO]
  rw[e];exact Of hr
 ·have e:bp (n+1) (⟨2,nm,nms,vn,val⟩,l)=[mk [46],de (bl nm)]:=by simp[bp]
  rw[e];exact Oe hr p5
 ·have e:bp (n+1) (⟨3,nm,nms,vn,val⟩,l)=io [61] nms (l.map (bp n)):=by simp[bp]
  rw[e]at aL ⊢;exact Od ih hr (p4 (Or.inl rfl)) p6 lp (by omega) (by omega)
 ·have e:bp (n+1) (⟨4,nm,nms,vn,val⟩,l)=fM [91] ((l.map (bp n)).headD []) [93]:=by simp[bp]
  rw[e]at aL ⊢;exact Oc ih hr (p3 rfl) lp (by omega)
 ·have e:bp (n+1) (⟨5,nm,nms,vn,val⟩,l)=[wd [116,97,103],de (bl nm)]:=by simp[bp]
  rw[e];exact Ob hr p5
 ·have e:bp (n+1) (⟨6,nm,nms,vn,val⟩,l)=wd [99,97,115,101]::io [61] nms (l.map (bp n)):=by simp[bp]
  rw[e]at aL ⊢;exact Oa ih hr (p4 (Or.inr rfl)) p6 lp (by omega) (by simp only[List.length_cons]at aL;omega)
 ·have e:bp (n+1) (⟨7,nm,nms,vn,val⟩,l)=[wd [99,111,110,115,116],tW (aI vn val)]:=by simp[bp]
  rw[e];exact NZ (k7 rfl) hr p7
 ·have e:bp (n+1) (⟨8,nm,nms,vn,val⟩,l)=[wd [116,111,116,101,120,116]]:=by simp[bp,wO]
  rw[e];exact NY hr
 ·have e:bp (n+1) (⟨9,nm,nms,vn,val⟩,l)=[wd [116,111,110,117,109]]:=by simp[bp,wO]
  rw[e];exact NX hr
 ·have e:bp (n+1) (⟨10,nm,nms,vn,val⟩,l)=[wd [115,117,109]]:=by simp[bp,wO]
  rw[e];exact Kn hr
 ·have e:bp (n+1) (⟨11,nm,nms,vn,val⟩,l)=[wd [99,111,117,110,116]]:=by simp[bp,wO]
  rw[e];exact Km hr
 have e:bp (n+1) (⟨12,nm,nms,vn,val⟩,l)=aU (mk [59]) (l.map (jV n)):=by simp[bp];rfl
 rw[e]at aL ⊢;exact Kl ih hr lp (by omega) (by omega)
theorem uq:∀n,vJ n
 |0=>fun x=>Empty.elim x
 |n+1=>Al n (uq n)
variable {dq : {_f : (p : Prop) → Decidable p // True}}
theorem mB(a b:List Tk):oC (a++b)=oC a+oC b:=by unfold oC;simp only[List.length_append,List.map_append,List.sum_append];omega
theorem dW(a:Tk)(l:List Tk):oC (a::l)=1+a.s.length+oC l:=by unfold oC;simp only[List.length_cons,List.map_cons,List.sum_cons];omega
theorem ff:oC ([]:List Tk)=0:=rfl
theorem rH(c:Tk):∀L:List (List Tk),oC (aU c L)<=aA (L.map oC)+L.length*(1+c.s.length)
 | []=>by simp[aU,ff]
 | [a]=>by simp[aU,aA]
 |a::b::r=>by have:=rH c (b::r);simp only[aU,mB,dW,List.map_cons,aA,List.length_cons,Nat.add_mul]at this ⊢;omega
theorem yk(c:UInt8):∀(ns:List ByteArray) (ks:List (List Tk)),aA ((mY [c] ns ks).map oC)<=aA (ns.map ByteArray.size)+aA (ks.map oC)+3*ks.length/\(mY [c] ns ks).length<=ks.length
 | [],ks=>by simp[mY,aA]
 |s::ns,[]=>by simp[mY,aA]
 |s::ns,k::ks=>by
  obtain⟨h1,h2⟩:=yk c ns ks;have e:mY [c] (s::ns) (k::ks)=(de (bl s)::mk [c]::k)::mY [c] ns ks:=rfl;rw[e];have e2:(de (bl s)).s.length=s.size:=by rw[yL,bl_length]
  have e3:(mk [c]).s.length=1:=rfl;simp only[List.map_cons,aA,List.length_cons,dW,e2,e3];omega
theorem yj(c:UInt8)(ns:List ByteArray)(ks:List (List Tk)):oC (io [c] ns ks)<=4+aA (ns.map ByteArray.size)+aA (ks.map oC)+5*ks.length:=by have h1:=rH (mk [44]) (mY [c] ns ks);obtain⟨h2,h3⟩:=yk c ns ks;have e3:∀d,(mk [d]).s.length=1:=fun _=>rfl;simp only[io,fM,dW,mB,e3,ff];rw[e3]at h1;omega
theorem At(n:Bool)(s:ByteArray)(x:Int)(h:eI n s x=true):(fF n (bl s) x).length<=s.size+30:=by
 obtain⟨_,h1,Ff,dx,gT,_⟩:=bL h;have hs:(CO n).length<=1:=by cases n<;>simp[CO]
 have Il:=Lib.itoa_length_le (x+s.size-1) (by omega) (by omega);unfold fF;rw[List.length_append,bl_length]
 split
 ·rw[List.length_append,List.length_replicate,bl_length];omega
 split
 ·have:(dB (bl s) (-x).toNat).length<=s.size+25:=by
   unfold dB
   split<;>simp[bl_length]<;>omega
  omega
 have:(dd (bl s) (Lib.itoa (x+s.size-1))).length<=s.size+25:=by
  unfold dd
  split<;>simp[bl_length]<;>omega
 omega
theorem IC{h:Hd}(hv:h.kind=3->eI h.neg h.dig h.exp=true):(tW h).s.length<=h.text.size+h.dig.size+30:=by
 unfold tW
 split
 ·show(bl h.text).length<=_
  rw[bl_length];omega
 split
 ·rename_i k
  show(fF h.neg (bl h.dig) h.exp).length<=_;have:=At h.neg h.dig h.exp (hv k);omega
 split
 ·show(4:Nat)<=_
  omega
 split
 ·show(4:Nat)<=_
  omega
 show(5:Nat)<=_;omega
theorem yu{n:Nat}:∀l:List (ET n),(∀y∈l,oC (bp n y)+8<=dm n y+50*aM n y)->aA ((l.map (bp n)).map oC)+8*l.length<=aA (l.map (dm n))+50*aA (l.map (aM n))
 | [],_=>by simp[aA]
 |a::l,h=>by have h1:=h a (by simp);have h2:=yu l fun y hy=>h y (by simp[hy]);simp only[List.map_cons,aA,List.length_cons]at h2 ⊢;omega
theorem yv{n:Nat}:∀l:List (ET n),aA ((l.map (jV n)).map oC)<=aA ((l.map (bp n)).map oC)+4*l.length
 | []=>by simp[aA]
 |a::l=>by
  have h2:=yv l;have h1:oC (jV n a)<=oC (bp n a)+4:=by
   unfold jV
   split
   ·have e3:∀d,(mk [d]).s.length=1:=fun _=>rfl
    simp only[fM,dW,mB,e3,ff];omega
   omega
  simp only[List.map_cons,aA,List.length_cons]at h2 ⊢;omega
theorem yR:∀(n:Nat) (x:ET n),mo n x->oC (bp n x)+8<=dm n x+50*aM n x
 |0,x,_=>Empty.elim x
 |n+1,x,hn=>by
  have ih:=yu x.2 fun y hy=>yR n y (hn.2 y hy);have LT:=hn.1.pre;obtain⟨⟨k,nm,nms,vn,val⟩,l⟩:=x;obtain⟨p1,p2,p3,p4,p5,p6,p7,_⟩:=LT;simp only at p1 p2 p3 p4 p7 ih;have e3:∀d,(mk [d]).s.length=1:=fun _=>rfl;have e2:(de (bl nm)).s.length=nm.size:=by rw[yL,bl_length]
  have hb:1+(aI vn val).text.size+(aI vn val).dig.size<=blk vn val:=by
   cases vn with
   |zero=>exact Empty.elim val
   |succ vn=>simp only[blk,aI];omega
  have hc:=IC p7;show _<=1+nm.size+nms.length+blk vn val+aA (nms.map ByteArray.size)+aA (l.map (dm n))+50*(1+aA (l.map (aM n)))
  simp only[bp]
  split
  ·simp only[dW,e3,e2,ff];omega
  split
  ·have e5:(wd [116,97,103]).s.length=3:=rfl
   simp only[dW,e5,e2,ff];omega
  split
  ·have e5:(wd [99,111,110,115,116]).s.length=5:=rfl
   simp only[dW,e5,ff];omega
  split
  ·cases l with
   |nil=>simp only[List.map_nil,List.headD_nil,fM,dW,mB,e3,ff];omega
   |cons y l=>
    simp only[List.map_cons,aA,List.length_cons]at ih;simp only[fM,List.map_cons,List.headD_cons,dW,mB,e3,ff,aA];omega
  split
  ·have:=yj 61 nms (l.map (bp n))
   rw[List.length_map]at this;omega
  split
  ·have:=yj 61 nms (l.map (bp n))
   have e5:(wd [99,97,115,101]).s.length=4:=rfl;rw[List.length_map]at this;simp only[dW,e5];omega
  split
  ·have h1:=rH (mk [59]) (l.map (jV n))
   have h2:=yv l;rw[e3,List.length_map]at h1;show oC (aU (mk [59]) (l.map (jV n)))+8<=_;omega
  have e6:(wd (wO k)).s.length<=6:=by
   show(wO k).length<=6;unfold wO
   repeat' split
   all_goals simp
  simp only[dW,ff];omega
theorem GR(rv:tL)(n:Nat)(x:ET n)(q:Sl)(w:World)(hr:RE n w x q)(hz:zN n x)(hb:dm n x<=32768):Calls prog 17 #[.agg (ecl (ehd n x) q)] w fun e w'=>e=.returned (.tuple #[.string (aj (BP dq n x).2),.int .i64 (BP dq n x).1])/\Below w.heap.size w w':=by
 have hs:aM n x<=200000:=by have:=fL n x;omega
 have hC:=aa (fun W (hb:Below w.heap.size w W)=>uA (dq:=dq) rv n x q W (hr.below hb) hz hs);have hT:=aa (fun(h:mX dq n x=0) W (hb:Below w.heap.size w W)=>uq n x q W (hr.below hb) (gN h).1 (gN h).2.2);have hP:=aa (fun(h:mX dq n x=0) W B v (k:OT W B v (bp n x))=>rprint_any v (bp n x) W (k.ts (by have:=kU n x;have:=(gN h).2.2;omega)) (by have:=yR n x (gN h).1;have:=(gN h).2.2;omega));have hx:Hid (BP dq n x=if mX dq n x=0 then ((((kS (bp n x)).1:Nat):Int),(kS (bp n x)).2) else (mX dq n x,[])):=rfl;obtain⟨x1,y1,z1,x2,y2,z2,x3,y3,z3,x4,y4,z4,aK⟩:=hr.shape;subst aK;obtain⟨h,hh⟩:∃h,ehd n x=h:=⟨_,rfl⟩
 obtain⟨T,UF⟩:∃T,bp n x=T:=⟨_,rfl⟩
 obtain⟨c,vQ⟩:∃c,mX dq n x=c:=⟨_,rfl⟩
 obtain⟨R,hR⟩:∃R,BP dq n x=R:=⟨_,rfl⟩
 rw[hh]at hC hT ⊢;rw[UF]at hT hP hx;rw[vQ]at hC hT hP hx;rw[hR]at hx ⊢;have X0:=aa (ft w h ⟨.slice x1 y1 z1,.slice x2 y2 z2,.slice x3 y3 z3,.slice x4 y4 z4⟩);have b0:=aa (ab (o:=.cells (ecl h ⟨.slice x1 y1 z1,.slice x2 y2 z2,.slice x3 y3 z3,.slice x4 y4 z4⟩) 33) (Below.refl w.heap.size w));have c0:=X0.out.cells;clear hr hz hb hs hh UF vQ hR;unfold bE at hT;unfold ecl at hC hT b0 X0 c0 ⊢;simp only at hC hT b0 X0 c0 ⊢;go_enter func17,ntmps17;go_wp2_with(go_at_call 18;refine ak.out ?_)
 refine ak.mk ((hC.out _ b0.out).mono ?_);rintro e w1 ⟨rfl,ai⟩;have B1:=aa (ac b0.out ai);have X1:=aa (X0.out.below ai);have c1:=X1.out.cells;simp only at c1;clear ai hC X0 c0;by_cases h0:c=0
 ·have eN:=aa (hT.out h0 w1 B1.out)
  have UH:=aa (hP.out h0);have e1:Hid (R=((((kS T).1:Nat):Int),(kS T).2)):=by show _=_;rw[hx.out,if_pos h0]
  subst h0;clear hT hP hx;go_wp2_with(go_at_call 43;refine ak.out ?_)
  refine ak.mk (eN.out.mono ?_);rintro e w2 ⟨v,rfl,hO,aq⟩;have B2:=aa (ac B1.out aq);have qI:=aa (UH.out w2 _ v hO);clear hO aq eN UH c1;unfold Ng at qI;go_wp2_with(go_at_call 42;refine ak.out ?_)
  refine ak.mk (qI.out.mono ?_);rintro e w3 ⟨rfl,ar⟩;have B3:=aa (ac B2.out ar);go_wp2_with fail
  go_ret2;exact⟨by rw[e1.out];rfl,B3.out⟩
 have b1:(c==0)=false:=by simp[h0]
 have e1:Hid (R=(c,[])):=by show _=_;rw[hx.out,if_neg h0]
 clear h0 hx;go_wp2_with fail
 go_ret2;exact⟨by rw[e1.out];rfl,B1.out⟩
theorem wL(hP:aW)(gk:Nat)(hg:1005<=gk)(n:Nat)(x:ET n)(q:Sl)(w:World)(g:Gw w)(hr:RE n w x q)(hz:zN n x):Calls prog 4 #[.agg (ecl (ehd n x) q)] w fun e w'=>e=.returned (.bool true)/\Below w.heap.size w w':=by
 have dq:{_f:(p:Prop)->Decidable p // True}:=⟨fun p=>Classical.propDecidable p,trivial⟩
 obtain⟨x1,x2,x3,x4,x5,x6,x7,x8,x9,x10,x11,x12,aK⟩:=hr.shape;subst aK;have bx:=aa (fun W (hb:Below w.heap.size w W)=>FJ n x ⟨.slice x1 x2 x3,.slice x4 x5 x6,.slice x7 x8 x9,.slice x10 x11 x12⟩ W (hr.below hb) hz);have aw:=aa (fun W (hb:Below w.heap.size w W)=>BG hP gk hg W (g.below hb));have cp:=aa (fun(h:dm n x<=32768) W (hb:Below w.heap.size w W)=>Br n x ⟨.slice x1 x2 x3,.slice x4 x5 x6,.slice x7 x8 x9,.slice x10 x11 x12⟩ W (hr.below hb) (by omega));have px:=aa (fun(h:dm n x<=32768) q' W (hb:Below w.heap.size w W) (k:RE n W x q')=>uD (dq:=dq) hP n x q' W k (tv n x hz h) (by have:=fL n x;omega) (g.below hb).gs);have ck:=aa (fun(h:dm n x<=32768) q' W (hb:Below w.heap.size w W) (k:RE n W x q')=>qn (dq:=dq) n x q' W k ⟨tv n x hz h,(g.below hb).gs.gg.gu⟩ (by have:=fL n x;omega));have rp:=aa (fun(h:dm n x<=32768) W (hb:Below w.heap.size w W)=>GR (dq:=dq) NU n x ⟨.slice x1 x2 x3,.slice x4 x5 x6,.slice x7 x8 x9,.slice x10 x11 x12⟩ W (hr.below hb) hz h);have rc:=aa (fun(h:dm n x<=32768) W (hb:Below w.heap.size w W)=>uA (dq:=dq) NU n x ⟨.slice x1 x2 x3,.slice x4 x5 x6,.slice x7 x8 x9,.slice x10 x11 x12⟩ W (hr.below hb) hz (by have:=fL n x;omega));have sm:=aa (fun q' W (hb:Below w.heap.size w W) (k:RE n W x q')=>Bo n x q' ⟨.slice x1 x2 x3,.slice x4 x5 x6,.slice x7 x8 x9,.slice x10 x11 x12⟩ W k (hr.below hb));obtain⟨h,hh⟩:∃h,ehd n x=h:=⟨_,rfl⟩
 obtain⟨S,hS⟩:∃S,aj (BP dq n x).2=S:=⟨_,rfl⟩
 obtain⟨ee,Us⟩:∃e,(BP dq n x).1=e:=⟨_,rfl⟩
 obtain⟨c,vQ⟩:∃e,mX dq n x=e:=⟨_,rfl⟩
 rw[hh]at bx cp px ck rp rc sm ⊢;rw[hS,Us]at px rp;rw[vQ]at ck rc;have X0:=aa (ft w h ⟨.slice x1 x2 x3,.slice x4 x5 x6,.slice x7 x8 x9,.slice x10 x11 x12⟩);have b0:=aa (ab (o:=.cells (ecl h ⟨.slice x1 x2 x3,.slice x4 x5 x6,.slice x7 x8 x9,.slice x10 x11 x12⟩) 33) (Below.refl w.heap.size w));have c0:=X0.out.cells;clear hh hS Us vQ hr hz g hP;unfold ecl at bx cp px ck rp rc sm X0 b0 c0 ⊢;simp only at bx cp px ck rp rc sm X0 b0 c0 ⊢;go_enter func4,ntmps4;go_wp2_with(go_at_call 13;refine ak.out ?_)
 refine ak.mk ((bx.out _ b0.out).mono ?_);rintro e w1 ⟨b1,rfl,H1,ai⟩;have B1:=aa (ac b0.out ai);have X1:=aa (X0.out.below ai);have c1:=X1.out.cells;simp only at c1;clear ai bx X0 c0 b0;cases b1
 case true=>
  go_wp2_with fail
  go_ret;exact⟨rfl,B1.out⟩
 have hE:Hid (dm n x<=32768):=(H1.out (by first|rfl|trivial)).1;have cp1:=aa (cp.out hE.out _ B1.out);clear H1 cp;go_wp2_with(go_at_call 14;refine ak.out ?_)
 refine ak.mk (cp1.out.mono ?_);rintro e w2 ⟨q2,rfl,nU,aq⟩;obtain⟨y1,y2,y3,y4,y5,y6,y7,y8,y9,y10,y11,y12,aK⟩:=nU.out.rd.shape;subst aK;have Nv:=ab (o:=.cells (ecl h ⟨.slice y1 y2 y3,.slice y4 y5 y6,.slice y7 y8 y9,.slice y10 y11 y12⟩) 33) (Below.refl w2.heap.size w2);have Y2:=aa (ft w2 h ⟨.slice y1 y2 y3,.slice y4 y5 y6,.slice y7 y8 y9,.slice y10 y11 y12⟩);have R2:=aa (nU.out.rd.below Nv);have B2:=aa (ac (ac B1.out aq) Nv);have X2:=aa ((X1.out.below aq).below Nv);have c2:=Y2.out.cells;clear aq nU Nv cp1 B1 X1 c1;unfold ecl at Y2 R2 B2 X2 c2;simp only at Y2 R2 B2 X2 c2;have px2:=aa (px.out hE.out _ _ B2.out R2.out);clear px
 dsimp only
 go_wp2_with(go_at_call 15;refine ak.out ?_)
 refine ak.mk (px2.out.mono ?_);rintro e w3 ⟨rfl,ar⟩;have Y3:=aa (Y2.out.below ar);have R3:=aa (R2.out.below ar);have B3:=aa (ac B2.out ar);have X3:=aa (X2.out.below ar);have c3:=Y3.out.cells;simp only at c3;have ck3:=aa (ck.out hE.out _ _ B3.out R3.out);clear ar px2 ck Y2 R2 B2 X2 c2;go_wp2_with(go_at_call 16;refine ak.out ?_)
 refine ak.mk (ck3.out.mono ?_);rintro e w4 ⟨rfl,aO⟩;have Y4:=aa (Y3.out.below aO);have R4:=aa (R3.out.below aO);have B4:=aa (ac B3.out aO);have X4:=aa (X3.out.below aO);have c4:=X4.out.cells;simp only at c4;have rp4:=aa (rp.out hE.out _ B4.out);clear aO ck3 rp Y3 R3 B3 X3 c3;go_wp2_with(go_at_call 17;refine ak.out ?_)
 refine ak.mk (rp4.out.mono ?_);rintro e w5 ⟨rfl,bg⟩;have Y5:=aa (Y4.out.below bg);have R5:=aa (R4.out.below bg);have B5:=aa (ac B4.out bg);have X5:=aa (X4.out.below bg);clear bg rp4 Y4 R4 B4 X4 c4;go_wp2_with(go_at_call 11;refine ak.out ?_)
 refine ak.mk ((aw.out _ B5.out).mono ?_);rintro e w6 ⟨rfl,da⟩;have Y6:=aa (Y5.out.below da);have R6:=aa (R5.out.below da);have B6:=aa (ac B5.out da);have X6:=aa (X5.out.below da);have c6:=X6.out.cells;simp only at c6;have rc6:=aa (rc.out hE.out _ B6.out);clear da aw rc Y5 R5 B5 X5;go_wp2_with(go_at_call 18;refine ak.out ?_)
 refine ak.mk (rc6.out.mono ?_);rintro e w7 ⟨rfl,jO⟩;have Y7:=aa (Y6.out.below jO);have R7:=aa (R6.out.below jO);have B7:=aa (ac B6.out jO);have X7:=aa (X6.out.below jO);have c7:=X7.out.cells;have d7:=Y7.out.cells;simp only at c7 d7;have sm7:=aa (sm.out _ _ B7.out R7.out);clear jO rc6 sm Y6 R6 B6 X6 c6;go_wp2_with(go_at_call 12;refine ak.out ?_)
 refine ak.mk (sm7.out.mono ?_);rintro e w8 ⟨rfl,jr⟩;have B8:=aa (ac B7.out jr);clear jr sm7 c7 d7 Y7 R7 B7 X7;go_wp2_with fail
 go_ret;exact⟨rfl,B8.out⟩
theorem prints_any(hP:aW)(n:Nat)(x:ET n)(q:Sl)(w:World)(g:Gw w)(hr:RE n w x q)(hz:zN n x):Calls prog 4 #[.agg (ecl (ehd n x) q)] w fun e w'=>e=.returned (.bool true)/\Below w.heap.size w w':=wL hP 1005 (Nat.le_refl _) n x q w g hr hz
end Lx
