import Derived.Test.YtcnfchblfcfimaaGreatDoorZh28
import Derived.Defers
import Derived.Recover
import Derived.Laws.Pointers
import Derived.Test.YtcnfchblfcfimaaGreatDoorZh33
set_option linter.all false
set_option maxHeartbeats 4000000
set_option maxRecDepth 100000
namespace Go.Proofs.YtcnfchblfcfimaaGreatDoor
open Proofs.Tryz RowKit
namespace Lx
section
variable {w : World} {ops : Array Oper} {rest : List Oper} {o : Oper} {a : Act} {Q : Exit → Act → World → Prop}
theorem IL(hgd:o.guard=none)(s x:Operand)(ho:o.op=.call {callee:=.builtin .append,args:=#[s,x],argTypes:=#[59,59]})
  (B:Nat) (v:Value) (l:List Tk) (hs:a.eval s=v) (bz:OT w B v l) (ad:Addr) (c:Nat) (hx:a.eval x=.slice (some ad) 1 c) (t:Tk)
  (hnews:∀j u,(gV [t])[j]?=some u->w.cell? (ad.add j)=some u) (hk:l.length<=100000) (hB:B<=w.heap.size)
  (h:∀g c' w',Hid (OT w' B (.slice (some ⟨g,0,none⟩) (l.length+1) c') (l++[t]))->Hid (w.grownBy w' v.ownBlock)->Hid (some g=v.ownBlock\/g=w.heap.size)->wpList prog ops Q rest (a.put o.dst (.slice (some ⟨g,0,none⟩) (l.length+1) c')) w'):wpList prog ops Q (o::rest) a w:=by
 obtain⟨i0,hi,fY,gD,eR⟩:=info_parts zi;refine wpList_append_own_at w hgd s x 59 ho B 88 i0 _ 3 32 Tryz.underlying59 hi fY gD eR rfl (by decide) v l.length (gV l) hs bz ad 1 c (gV [t]) hx (by rw[mC];rfl) hnews (mD _) (by unfold maxLen;omega) (by omega) hB ?_;intro v' w' h1 h2 h3 h4;rw[<-oT]at h1;obtain⟨g,c',rfl⟩:=mT h1;refine h g c' w' ?_ h2 ?_
 ·show OT _ _ _ _
  unfold OT;rw[List.length_append];exact h1
 rcases h4 with h4|h4
 ·exact Or.inl h4
 exact Or.inr (by cases h4;rfl)
end
theorem GC(l:List Tk)(k:Nat)(hk:k<l.length):(gV l)[k*3]?=some (.int .i64 l[k].w)/\(gV l)[k*3+1]?=some (.string (aj l[k].s))/\(gV l)[k*3+2]?=some (.int .i64 l[k].p):=by
 induction l generalizing k with
 |nil=>simp at hk
 |cons a l ih=>
  have e:gV (a::l)=[.int .i64 a.w,.string (aj a.s),.int .i64 a.p]++gV l:=rfl;cases k with
  |zero=>exact⟨rfl,rfl,rfl⟩
  |succ k=>
   have:=ih k (by simpa using hk);rw[e];have q:∀i,([.int .i64 a.w,.string (aj a.s),.int .i64 a.p]++gV l:List Value)[i+3]?=(gV l)[i]?:=fun i=>by rw[List.getElem?_append_right (by simp)];simp
   have e1:(k+1)*3=k*3+3:=by omega
   have e2:k*3+3+1=k*3+1+3:=by omega
   have e3:k*3+3+2=k*3+2+3:=by omega
   rw[e1,e2,e3,q,q,q];exact this
theorem TQ.of{W:World}{L B g c:Nat}{l:List Tk}(h:OT W L (.slice (some ⟨g,0,none⟩) l.length c) l)(hB:W.heap[B]?=some (.cells #[.slice (some ⟨g,0,none⟩) l.length c] 59 (0,0)))(h1:l.length<=100000)(hs:B+4<=W.heap.size)(hg:g<B+4)(hn:g≠B):TQ W B l:=by
 rcases h.2 with⟨h0,_⟩|⟨g',cap,cur,e,h2,h3,h4,h5,h6,h7⟩
 ·cases h0
 obtain⟨e1,_,e2⟩:=Value.slice.inj e;cases e1;cases e2;refine⟨_,_,hB,h4,⟨by unfold maxLen at h5;omega,h1⟩,hs,fun _=>⟨g,0,rfl,hn,hg,fun k hk=>?_⟩⟩;have key:∀i u,(gV l)[i]?=some u->W.cell? ⟨g,i,none⟩=some u:=fun i u hu=>by
  rw[<-h7,List.getElem?_take]at hu;unfold World.cell?;rw[h3]
  split at hu
  ·simpa using hu
  cases hu
 obtain⟨c0,c1,c2⟩:=GC l k hk;simp only[Nat.zero_add];exact⟨key _ _ c0,key _ _ c1,key _ _ c2⟩
theorem uJ{w:World}{L:Nat}{v:Value}{l:List Tk}(h:OT w L v l)(hL:L<=w.heap.size)(n:Nat)(hn:n<=100000)(hk:l.length<=90000):Calls prog 59 #[v,.int .i64 n] w fun e w'=>e=.returned (lv w.heap.size)/\Below L w w'/\∀o,TQ (w'.alloc o) w.heap.size (l++[⟨0,[],n⟩]):=by
 have H:=aa h;obtain⟨a,c,rfl⟩:=h.shape;have HK:=aa hk;have HL:=aa hL;clear h hk hL;unfold lv;go_enter func59,ntmps59;go_wp2_with(at_builtin;refine ak.out ?_)
 refine ak.mk ?_;refine IL rfl (.tmp 5) (.tmp 8) rfl L (.slice a l.length c) l rfl (H.out.keep (ab (ab (ab af)))) ⟨w.heap.size+1+1,0,none⟩ 1 rfl ⟨0,[],n⟩ ?_ (by have:=HK.out;omega) (by have:=HL.out;simp;omega) ?_
 ·have:=yP ((w.alloc (Obj.cells #[Value.slice a l.length c] 59)).alloc (Obj.cells #[Value.nilFunc,Value.nilFunc] 83)) ⟨0,[],n⟩ 88
  simp only[World.size_alloc]at this;exact this
 intro g c' w3 O3 G3 R3;have mr:=G3.out.size;simp only[World.size_alloc]at mr;have Re:Hid (g<w.heap.size\/g=w.heap.size+3):=by
  rcases R3.out with e|e
  ·exact Or.inl (World.ownsRow.lt H.out g e.symm).2
  exact Or.inr (by simpa using e)
 have iA:w3.heap[w.heap.size]?=some (.cells #[.slice a l.length c] 59 (0,0)):=by rw[G3.out.block _ (by simp;omega) (fun e=>by have:=(World.ownsRow.lt H.out _ e.symm).2;omega),Below.heap_alloc _ _ _ (by simp;omega),Below.heap_alloc _ _ _ (by simp)];exact heap_alloc_last _ _
 have Qk:w3.heap[w.heap.size+1]?=some (.cells #[.nilFunc,.nilFunc] 83 (0,0)):=by rw[G3.out.block _ (by simp) (fun e=>by have:=(World.ownsRow.lt H.out _ e.symm).2;omega),Below.heap_alloc _ _ _ (by simp)];have:=heap_alloc_last (w.alloc (Obj.cells #[Value.slice a l.length c] 59)) (Obj.cells #[Value.nilFunc,Value.nilFunc] 83);rw[World.size_alloc]at this;exact this
 have cB:w3.cell? ⟨w.heap.size,0,none⟩=some (.slice a l.length c):=by unfold World.cell?;rw[iA];rfl
 have fB:w3.frozen? ⟨w.heap.size,0,none⟩=false:=by unfold World.frozen?;rw[iA];rfl
 have cS:w3.cell? ⟨w.heap.size+1,0,none⟩=some .nilFunc:=by unfold World.cell?;rw[Qk];rfl
 have cS1:w3.cell? ⟨w.heap.size+1,1,none⟩=some .nilFunc:=by unfold World.cell?;rw[Qk];rfl
 have fS:w3.frozen? ⟨w.heap.size+1,0,none⟩=false:=by unfold World.frozen?;rw[Qk];rfl
 have fS1:w3.frozen? ⟨w.heap.size+1,1,none⟩=false:=by unfold World.frozen?;rw[Qk];rfl
 have B3:Hid (Below L w w3):=((ab (ab (ab af))).mono HL.out).grown G3.out (by have:=HL.out;simp;omega) (fun k hk=>(World.ownsRow.lt H.out k hk).1);have HB3:=aa iA;clear iA Qk G3 R3;have SH:∀(fn:Fn) (first cap:Array Value) (w:World),(Instr.makeFunc fn first cap).run prog w=.ok (.func fn first cap) w:=fun _ _ _ _=>rfl;have Jx:∀(a:Addr) (w:World) (fn:Fn) (first cap:Array Value),(store a (.func fn first cap)).run prog w=stored prog w a (.func fn first cap) .plain:=fun a w fn f c=>run_store prog w a _ .plain rfl;go_wp2_with fail
 refine bodyPost_ret (v:=lv w.heap.size) (by simp[results,Tryz.results59,go_sem,lv, *]) rfl ⟨rfl,?_,fun o=>?_⟩
 ·have hh:=HL.out
  exact((B3.out.setCell hh _).setCell (by show L<=w.heap.size+1;omega) _).setCell (by show L<=w.heap.size+1;omega) _
 refine TQ.of (L:=L) (g:=g) (c:=c') ?_ ?_ ?_ ?_ ?_ ?_
 ·rw[List.length_append]
  have ne:∀k,k=w.heap.size\/k=w.heap.size+1->(some g≠some k):=fun k hk e=>by cases e;have:=Re.out;omega
  refine OT.keep (W:=((w3.setCell ⟨w.heap.size,0,none⟩ (.slice (some ⟨g,0,none⟩) (l.length+1) c')).setCell ⟨w.heap.size+1,0,none⟩ (.func (.func 114) #[] #[.pointer (some ⟨w.heap.size,0,none⟩)])).setCell ⟨w.heap.size+1,1,none⟩ (.func (.func 115) #[] #[.pointer (some ⟨w.heap.size,0,none⟩)])) ?_ (ab af);refine aX (show w3.ownsRow L 88 3 (.slice (some ⟨g,0,none⟩) (l.length + [(⟨0,[],n⟩:Tk)].length) c') (l++[(⟨0,[],n⟩:Tk)]).length (gV (l++[(⟨0,[],n⟩:Tk)]))from O3.out) fun k hk hb=>?_;have Rc:g=k:=by simpa [Value.ownBlock] using hk
  subst Rc;have:=Re.out;rw[Below.heap_setCell _ _ _ _ (by show g≠w.heap.size+1;omega),Below.heap_setCell _ _ _ _ (by show g≠w.heap.size+1;omega),Below.heap_setCell _ _ _ _ (by show g≠w.heap.size;omega)]
 ·rw[Below.heap_alloc _ _ _ (by simp;omega),Below.heap_setCell _ _ _ _ (by simp),Below.heap_setCell _ _ _ _ (by simp),List.length_append]
  exact ij HB3.out _
 ·have:=HK.out;simp;omega
 ·simp;omega
 ·have:=Re.out;omega
 have:=Re.out;omega
theorem Cs(w:World):(Instr.typeAssert .nilIface 20 79 true).run prog w=.ok (.tuple #[.int .i64 0,.bool false]) w:=by simp[Instr.typeAssert]
theorem Ct(E:Int)(w:World):(Instr.typeAssert (.iface 79 (.int .i64 E)) 20 79 true).run prog w=.ok (.tuple #[.int .i64 E,.bool true]) w:=by simp[Instr.typeAssert]
theorem uB(p q:Addr)(w:World):CallsD prog 58 #[.pointer (some p),.pointer (some q)] .returning w fun e u' w'=>e=.returned (.tuple #[])/\u'=.returning/\w'=w:=by refine callsD_of_wpS Tryz.func58 rfl fun c₀ cs hu=>?_;apply wpS_seq;apply wpS_region;simp[wpOpsS,go_sem,recoverD,hu,Tryz.ntmps58,Exit.thenS,Cs];apply wpS_seq;apply wpS_region;simp[wpOpsS,go_sem,Exit.thenS,Array.replicate];refine wpS_cond (t:=false) (by simp[Act.eval,Array.replicate]) ?_;simp only[Bool.false_eq_true,if_false];refine wpS_of_wp (wp_skip ?_);cases c₀;simp_all [bodyPostS,results,Tryz.results58]
theorem wI(p q:Nat)(u v:Value)(older:List PanicEntry)(w:World)(hp:w.cell? ⟨p,0,none⟩=some u)(zp:w.frozen? ⟨p,0,none⟩=false)(hq:w.cell? ⟨q,0,none⟩=some v)(zq:w.frozen? ⟨q,0,none⟩=false)(hpq:p≠q)(E:Int):CallsD prog 58 #[.pointer (some ⟨p,0,none⟩),.pointer (some ⟨q,0,none⟩)] (.panicking ({v:=.iface 79 (.int .i64 E),recovered:=false}::older)) w fun e u' w'=>
   e=.returned (.tuple #[])/\u'=.panicking ({v:=.iface 79 (.int .i64 E),recovered:=true}::older)/\w'=(w.setCell ⟨p,0,none⟩ (.int .i64 140)).setCell ⟨q,0,none⟩ (.int .i64 E):=by
 have kq:(w.setCell ⟨p,0,none⟩ (.int .i64 140)).cell? ⟨q,0,none⟩=some v:=(World.cell?_of_block (w:=w) (Below.heap_setCell _ _ _ _ (Ne.symm hpq))).trans hq;have zk:(w.setCell ⟨p,0,none⟩ (.int .i64 140)).frozen? ⟨q,0,none⟩=false:=(World.frozen?_of_block (w:=w) (Below.heap_setCell _ _ _ _ (Ne.symm hpq))).trans zq;refine callsD_of_wpS Tryz.func58 rfl fun c₀ cs hu=>?_;apply wpS_seq;apply wpS_region;simp[wpOpsS,go_sem,recoverD,hu,Tryz.ntmps58,Exit.thenS,Ct];apply wpS_seq;apply wpS_region;simp[wpOpsS,go_sem,Exit.thenS,Array.replicate];refine wpS_cond (t:=true) (by simp[Act.eval,Array.replicate]) ?_;simp only[if_true];apply wpS_region;simp[wpOpsS,go_sem,Exit.thenS,hp,zp,kq,zk,bodyPostS,results,Tryz.results58]
def xS{n:Nat}(o:Sum Int (ET n×List Tk)):Sum Int (ET n):=match o with
 | .inl p=>.inl p
 | .inr x=>match x.2 with
  |t::_=>if t.w=0 then .inr x.1 else .inl t.p
  | []=>.inl 0
def Oi{n:Nat}(o:Sum Int (ET n)):Sum (Int×Int) (ET n):=match o with
 | .inl p=>.inl (140,p)
 | .inr e=>.inr e
def qq(f:Nat)(l:List UInt8):Sum (Int×Int) (ET (dp f+1)):=if (jd l).1=0 then Oi (xS (jH (BO f) ((jd l).2.2++[⟨0,[],l.length⟩]))) else .inl ((jd l).1,(jd l).2.1)
def IU(n:Nat)(w:World)(o:Sum (Int×Int) (ET n))(e:Ending)(w':World):Prop:=Below w.heap.size w w'/\match o with
 | .inl y=>e=.returned (.tuple #[.agg (ecl ze zs),.int .i64 y.1,.int .i64 y.2])
 | .inr x=>∃q,e=.returned (.tuple #[.agg (ecl (ehd n x) q),.int .i64 0,.int .i64 0])/\KE n w' x q w.heap.size w'.heap.size
theorem rS(l:List UInt8)(h:(jd l).1=0):(jd l).2.2.length<=1024/\l.length<=4096/\∀e,kO ((jd l).2.2++[⟨0,[],e⟩]):=by
 unfold jd at h ⊢;by_cases hb:4096<l.length
 ·simp[hb]at h
 simp only[hb,if_false]at h ⊢;cases hs:iS dE l 0 []with
 |inl x=>
  obtain⟨e,q⟩:=x;rw[hs]at h;have:=(rR dE _ l 0 [] e q (Nat.le_refl _) hs).1;simp at h;omega
 |inr r=>
  obtain⟨x,hx,h1,_,h3⟩:=oW dE _ _ _ _ _ (Nat.le_refl _) hs (by simp);refine⟨h1,by omega,fun e=>⟨r,e,rfl,fun t ht=>?_⟩⟩;have jC:r=x:=by simpa using hx
  rw[jC]at ht;have:=(h3 t ht).1;omega
theorem di{w:World}{k:Nat}{c:Array Value}{T:TypeId}(h:w.heap[k]?=some (.cells c T (0,0)))(j:Nat)(u:Value):(w.setCell ⟨k,j,none⟩ u).heap[k]?=some (.cells (c.setIfInBounds j u) T (0,0)):=by rw[setCell_eq_setRow w k j _ _ (0,0) _ h,setRow_heap w k _ _ _ (0,0) h]
structure RB(k:Nat)(w:World)(E A:Int)(W:World):Prop where
 bel:Below k w W
 ex:W.heap[k]?=some (.cells (ecl ze zs) 33 (0,0))
 e:W.heap[k+1]?=some (.cells #[.int .i64 E] 34 (0,0))
 a:W.heap[k+1+1]?=some (.cells #[.int .i64 A] 3 (0,0))
section
variable {k : Nat} {w W : World} {E A : Int}
theorem RB.dr(h:RB k w E A W):RB k w E A W.drew:=⟨h.bel.drew,h.ex,h.e,h.a⟩
theorem RB.pe(h:RB k w E A W):RB k w E A (W.setCell ⟨k+1,0,none⟩ (.int .i64 E)):=⟨h.bel.setCell (by show k<=k+1;omega) _,by rw[Below.heap_setCell _ _ _ _ (by show k≠k+1;omega)];exact h.ex,ij h.e _,by rw[Below.heap_setCell _ _ _ _ (by show k+1+1≠k+1;omega)];exact h.a⟩
theorem RB.pa(h:RB k w E A W):RB k w E A (W.setCell ⟨k+1+1,0,none⟩ (.int .i64 A)):=⟨h.bel.setCell (by show k<=k+1+1;omega) _,by rw[Below.heap_setCell _ _ _ _ (by show k≠k+1+1;omega)];exact h.ex,by rw[Below.heap_setCell _ _ _ _ (by show k+1≠k+1+1;omega)];exact h.e,ij h.a _⟩
theorem RB.pz(h:RB k w E A W):RB k w E A (((((((((((((W.setCell ⟨k,0,none⟩ (.int .i64 0)).setCell ⟨k,1,none⟩ (.string ⟨#[]⟩)).setCell ⟨k,2,none⟩ (.slice none 0 0)).setCell ⟨k,3,none⟩ (.slice none 0 0)).setCell ⟨k,4,none⟩ (.int .i64 0)).setCell ⟨k,5,none⟩ (.bool false)).setCell ⟨k,6,none⟩ (.bool false)).setCell ⟨k,7,none⟩ (.string ⟨#[]⟩)).setCell ⟨k,8,none⟩ (.int .i64 0)).setCell ⟨k,9,none⟩ (.int .u64 0)).setCell ⟨k,10,none⟩ (.string ⟨#[]⟩)).setCell ⟨k,11,none⟩ (.slice none 0 0)).setCell ⟨k,12,none⟩ (.slice none 0 0)):=by
 obtain⟨h1,h2,h3,h4⟩:=h;refine⟨?_,?_,?_,?_⟩
 ·iterate 13(refine Below.setCell ?_ (show k<=k from Nat.le_refl _) _)
  exact h1
 ·have q0:=di h2 0 (.int .i64 0)
  have q1:=di q0 1 (.string ⟨#[]⟩);have q2:=di q1 2 (.slice none 0 0);have q3:=di q2 3 (.slice none 0 0);have q4:=di q3 4 (.int .i64 0);have q5:=di q4 5 (.bool false);have q6:=di q5 6 (.bool false);have q7:=di q6 7 (.string ⟨#[]⟩);have q8:=di q7 8 (.int .i64 0);have q9:=di q8 9 (.int .u64 0);have q10:=di q9 10 (.string ⟨#[]⟩);have q11:=di q10 11 (.slice none 0 0);have q12:=di q11 12 (.slice none 0 0);exact q12
 ·iterate 13(rw[Below.heap_setCell _ _ _ _ (by show k+1≠k;omega)])
  exact h3
 iterate 13(rw[Below.heap_setCell _ _ _ _ (by show k+1+1≠k;omega)])
 exact h4
theorem RB.low{W1:World}(h:RB k w E A W)(hb:Below (k+3) W W1):RB k w E A W1:=⟨h.bel.trans (hb.mono (by omega)),(hb.block _ (by omega)).trans h.ex,(hb.block _ (by omega)).trans h.e,(hb.block _ (by omega)).trans h.a⟩
theorem RB.cells(h:RB k w E A W):W.cell? ⟨k,0,none⟩=some (.int .i64 0)/\W.cell? ⟨k,1,none⟩=some (.string ⟨#[]⟩)/\W.cell? ⟨k,2,none⟩=some (.slice none 0 0)/\W.cell? ⟨k,3,none⟩=some (.slice none 0 0)/\W.cell? ⟨k,4,none⟩=some (.int .i64 0)/\W.cell? ⟨k,5,none⟩=some (.bool false)/\W.cell? ⟨k,6,none⟩=some (.bool false)/\W.cell? ⟨k,7,none⟩=some (.string ⟨#[]⟩)/\W.cell? ⟨k,8,none⟩=some (.int .i64 0)/\W.cell? ⟨k,9,none⟩=some (.int .u64 0)/\W.cell? ⟨k,10,none⟩=some (.string ⟨#[]⟩)/\W.cell? ⟨k,11,none⟩=some (.slice none 0 0)/\W.cell? ⟨k,12,none⟩=some (.slice none 0 0)/\W.cell? ⟨k+1,0,none⟩=some (.int .i64 E)/\W.cell? ⟨k+1+1,0,none⟩=some (.int .i64 A):=by
 have hx:Ex W k ze zs:=⟨h.ex⟩
 obtain⟨c0,c1,c2,c3,c4,c5,c6,c7,c8,c9,c10,c11,c12⟩:=hx.cells;exact⟨c0,c1,c2,c3,c4,c5,c6,c7,c8,c9,c10,c11,c12,by unfold World.cell?;rw[h.e];rfl,by unfold World.cell?;rw[h.a];rfl⟩
theorem RB.frz(h:RB k w E A W):(∀j,W.frozen? ⟨k,j,none⟩=false)/\W.frozen? ⟨k+1,0,none⟩=false/\W.frozen? ⟨k+1+1,0,none⟩=false :=
 ⟨(show Ex W k ze zs from⟨h.ex⟩).frz,by unfold World.frozen?;rw[h.e];rfl,by unfold World.frozen?;rw[h.a];rfl⟩
end
theorem qZ{k:Nat}{w W:World}{E A p:Int}{a0 a1 a2 a3 a7 a8 a9 a10 a11 a12 a13 a14 a15 a16 a17 a18 a19 a20 a21 a22 a23 a24 a25 a26 a27 a28 a29 a30 a31:Value}{R:Ending->World->Prop}(h:RB k w E A W)(hR:∀X,RB k w 140 p X->R (.returned (.tuple #[.agg (ecl ze zs),.int .i64 140,.int .i64 p])) X):Leaves prog Tryz.f25 #[a0,a1,a2,a3,.pointer (some ⟨k,0,none⟩),.pointer (some ⟨k+1,0,none⟩),.pointer (some ⟨k+1+1,0,none⟩),a7,a8,a9,a10,a11,a12,a13,a14,a15,a16,a17,a18,a19,a20,a21,a22,a23,a24,a25,a26,a27,a28,a29,a30,a31] R [{target:=.fn (.func 58) #[.pointer (some ⟨k+1,0,none⟩),.pointer (some ⟨k+1+1,0,none⟩)],args:=#[]}] (.panicking (pw p)) W:=by
 obtain⟨_,c1,c2⟩:True/\W.cell? ⟨k+1,0,none⟩=some (.int .i64 E)/\W.cell? ⟨k+1+1,0,none⟩=some (.int .i64 A):=by obtain⟨_,_,_,_,_,_,_,_,_,_,_,_,_,c1,c2⟩:=h.cells;exact⟨trivial,c1,c2⟩
 obtain⟨_,f1,f2⟩:=h.frz;unfold pw;refine leaves_cons (f:=58) (args:=#[.pointer (some ⟨k+1,0,none⟩),.pointer (some ⟨k+1+1,0,none⟩)]) (by simp) (by simp[go_sem]) ?_;refine(wI (k+1) (k+1+1) _ _ [] _ c1 f1 c2 f2 (by omega) p).mono ?_;rintro e u' w'' ⟨rfl,rfl,rfl⟩;have RX:RB k w 140 p ((W.setCell ⟨k+1,0,none⟩ (.int .i64 140)).setCell ⟨k+1+1,0,none⟩ (.int .i64 p)):=by
  refine⟨(h.bel.setCell (by show k<=k+1;omega) _).setCell (by show k<=k+1+1;omega) _,?_,?_,?_⟩
  ·rw[Below.heap_setCell _ _ _ _ (by show k≠k+1+1;omega),Below.heap_setCell _ _ _ _ (by show k≠k+1;omega)];exact h.ex
  ·rw[Below.heap_setCell _ _ _ _ (by show k+1≠k+1+1;omega),ij h.e]
  rw[ij (B:=k+1+1) (v:=.int .i64 A) (T:=3) (by rw[Below.heap_setCell _ _ _ _ (by show k+1+1≠k+1;omega)];exact h.a)]
 have hr:=hR _ RX;generalize World.setCell _ _ _=X at RX hr ⊢;clear hR;have q0:=RX.cells;refine⟨.tuple #[.agg (ecl ze zs),.int .i64 140,.int .i64 p],?_,hr⟩;simp[results,Tryz.results25,go_sem,q0,ecl,ze,zs,lf,vz,vH,aI,aR]
theorem Ok{W:World}{k:Nat}{T:TypeId}{c0 c1 c2 c3 c4 c5 c6 c7 c8 c9 c10 c11 c12 d0 d1 d2 d3 d4 d5 d6 d7 d8 d9 d10 d11 d12:Value}(h0:W.heap[k]?=some (.cells #[c0,c1,c2,c3,c4,c5,c6,c7,c8,c9,c10,c11,c12] T (0,0))):(((((((((((((W.setCell ⟨k,0,none⟩ d0).setCell ⟨k,1,none⟩ d1).setCell ⟨k,2,none⟩ d2).setCell ⟨k,3,none⟩ d3).setCell ⟨k,4,none⟩ d4).setCell ⟨k,5,none⟩ d5).setCell ⟨k,6,none⟩ d6).setCell ⟨k,7,none⟩ d7).setCell ⟨k,8,none⟩ d8).setCell ⟨k,9,none⟩ d9).setCell ⟨k,10,none⟩ d10).setCell ⟨k,11,none⟩ d11).setCell ⟨k,12,none⟩ d12).heap[k]?=some (.cells #[d0,d1,d2,d3,d4,d5,d6,d7,d8,d9,d10,d11,d12] T (0,0)):=by have q0:=di h0 0 d0;have q1:=di q0 1 d1;have q2:=di q1 2 d2;have q3:=di q2 3 d3;have q4:=di q3 4 d4;have q5:=di q4 5 d5;have q6:=di q5 6 d6;have q7:=di q6 7 d7;have q8:=di q7 8 d8;have q9:=di q8 9 d9;have q10:=di q9 10 d10;have q11:=di q10 11 d11;have q12:=di q11 12 d12;simp only[List.setIfInBounds_toArray,List.set_cons_zero,List.set_cons_succ]at q12;exact q12
theorem tp{W:World}{k:Nat}{h h':Eh}{q q':Sl}(k0:Ex W k h' q'):Ex (((((((((((((W.setCell ⟨k,0,none⟩ (.int .i64 h.op)).setCell ⟨k,1,none⟩ (.string h.name)).setCell ⟨k,2,none⟩ (q.ns)).setCell ⟨k,3,none⟩ (q.ls)).setCell ⟨k,4,none⟩ (.int .i64 (aI h.vn h.val).kind)).setCell ⟨k,5,none⟩ (.bool (aI h.vn h.val).flag)).setCell ⟨k,6,none⟩ (.bool (aI h.vn h.val).neg)).setCell ⟨k,7,none⟩ (.string (aI h.vn h.val).dig)).setCell ⟨k,8,none⟩ (.int .i64 (aI h.vn h.val).exp)).setCell ⟨k,9,none⟩ (.int .u64 (aI h.vn h.val).bits)).setCell ⟨k,10,none⟩ (.string (aI h.vn h.val).text)).setCell ⟨k,11,none⟩ (q.vs)).setCell ⟨k,12,none⟩ (q.vl)) k h q:=by have h1:=k0.at_;unfold ecl at h1;have h2:=Ok (d0:=.int .i64 h.op) (d1:=.string h.name) (d2:=q.ns) (d3:=q.ls) (d4:=.int .i64 (aI h.vn h.val).kind) (d5:=.bool (aI h.vn h.val).flag) (d6:=.bool (aI h.vn h.val).neg) (d7:=.string (aI h.vn h.val).dig) (d8:=.int .i64 (aI h.vn h.val).exp) (d9:=.int .u64 (aI h.vn h.val).bits) (d10:=.string (aI h.vn h.val).text) (d11:=q.vs) (d12:=q.vl) h1;exact⟨h2⟩
theorem Dt{k:Nat}{W:World}{a0 a1 a2 a3 a7 a8 a9 a10 a11 a12 a13 a14 a15 a16 a17 a18 a19 a20 a21 a22 a23 a24 a25 a26 a27 a28 a29 a30 a31:Value}{h:Eh}{b1 b4 b7 b10:Option Addr}{b2 b3 b5 b6 b8 b9 b11 b12:Nat}{R:Ending->World->Prop}(hx:Ex W k h ⟨.slice b1 b2 b3,.slice b4 b5 b6,.slice b7 b8 b9,.slice b10 b11 b12⟩)(c1:W.cell? ⟨k+1,0,none⟩=some (.int .i64 0))(c2:W.cell? ⟨k+1+1,0,none⟩=some (.int .i64 0))(hR:R (.returned (.tuple #[.agg (ecl h ⟨.slice b1 b2 b3,.slice b4 b5 b6,.slice b7 b8 b9,.slice b10 b11 b12⟩),.int .i64 0,.int .i64 0])) W):Leaves prog Tryz.f25 #[a0,a1,a2,a3,.pointer (some ⟨k,0,none⟩),.pointer (some ⟨k+1,0,none⟩),.pointer (some ⟨k+1+1,0,none⟩),a7,a8,a9,a10,a11,a12,a13,a14,a15,a16,a17,a18,a19,a20,a21,a22,a23,a24,a25,a26,a27,a28,a29,a30,a31] R [{target:=.fn (.func 58) #[.pointer (some ⟨k+1,0,none⟩),.pointer (some ⟨k+1+1,0,none⟩)],args:=#[]}] .returning W:=by refine leaves_cons (f:=58) (args:=#[.pointer (some ⟨k+1,0,none⟩),.pointer (some ⟨k+1+1,0,none⟩)]) (by simp) (by simp[go_sem]) ?_;refine(uB _ _ _).mono ?_;rintro e u' w'' ⟨rfl,rfl,rfl⟩;have q0:=hx.cells;refine⟨.tuple #[.agg (ecl h ⟨.slice b1 b2 b3,.slice b4 b5 b6,.slice b7 b8 b9,.slice b10 b11 b12⟩),.int .i64 0,.int .i64 0],?_,hR⟩;simp[results,Tryz.results25,go_sem,q0,c1,c2,ecl]
theorem De(hP:aW)(f:Nat)(hf:1025<=f)(s:ByteArray)(w:World)(g:Gg w)(gp:Gp w)(hz:s.size<=1000000):Calls prog 25 #[.string s,.func (.func 26) #[] #[]] w fun e w'=>IU (dp f+1) w (qq f (bl s)) e w':=by
 have SH:∀(fn:Fn) (first cap:Array Value) (w:World),(Instr.makeFunc fn first cap).run prog w=.ok (.func fn first cap) w:=fun _ _ _ _=>rfl;obtain⟨W3,vp⟩:∃W3,W3=((w.alloc (.cells #[.int .i64 0,.string ⟨#[]⟩,.slice none 0 0,.slice none 0 0,.int .i64 0,.bool false,.bool false,.string ⟨#[]⟩,.int .i64 0,.int .u64 0,.string ⟨#[]⟩,.slice none 0 0,.slice none 0 0] 33)).alloc (.cells #[.int .i64 0] 34)).alloc (.cells #[.int .i64 0] 3):=⟨_,rfl⟩
 have B3:Hid (Below w.heap.size w W3):=by rw[vp];exact ab (ab (ab af))
 have hs:=aa (uo hP s W3 (g.below B3.out (by have:=g.sz;omega)) hz);have hM:=aa (wY hP f);rw[vp]at hs;clear hP
 go_enter_defers func25,ntmps25
 go_wp2_with(go_at_call 57;refine ak.out ?_)
 refine ak.mk ?_;refine(hs.out).mono ?_;rw[<-vp];rintro e w1 ⟨v,rfl,hO,hb⟩;have LA:W3.heap.size=w.heap.size+3:=by rw[vp];simp
 have Z3:Hid (Ex W3 w.heap.size ze zs):=((jY w).below (ab (ab af))) |> fun h=>by rw[vp];exact h
 have Z1:=aa (Z3.out.below hb);have e3:W3.heap[w.heap.size+1]?=some (.cells #[.int .i64 0] 34 (0,0)):=by rw[vp,Below.heap_alloc _ _ _ (by simp)];have:=heap_alloc_last (w.alloc (.cells #[.int .i64 0,.string ⟨#[]⟩,.slice none 0 0,.slice none 0 0,.int .i64 0,.bool false,.bool false,.string ⟨#[]⟩,.int .i64 0,.int .u64 0,.string ⟨#[]⟩,.slice none 0 0,.slice none 0 0] 33)) (.cells #[.int .i64 0] 34);rw[World.size_alloc]at this;exact this
 have a3:W3.heap[w.heap.size+1+1]?=some (.cells #[.int .i64 0] 3 (0,0)):=by rw[vp];have:=heap_alloc_last ((w.alloc (.cells #[.int .i64 0,.string ⟨#[]⟩,.slice none 0 0,.slice none 0 0,.int .i64 0,.bool false,.bool false,.string ⟨#[]⟩,.int .i64 0,.int .u64 0,.string ⟨#[]⟩,.slice none 0 0,.slice none 0 0] 33)).alloc (.cells #[.int .i64 0] 34)) (.cells #[.int .i64 0] 3);rw[World.size_alloc,World.size_alloc]at this;exact this
 have e1:Hid (w1.heap[w.heap.size+1]?=some (.cells #[.int .i64 0] 34 (0,0))):=(hb.block _ (by omega)).trans e3;have a1:Hid (w1.heap[w.heap.size+1+1]?=some (.cells #[.int .i64 0] 3 (0,0))):=(hb.block _ (by omega)).trans a3;have ce:w1.cell? ⟨w.heap.size+1,0,none⟩=some (.int .i64 0):=by unfold World.cell?;rw[e1.out];rfl
 have fe:w1.frozen? ⟨w.heap.size+1,0,none⟩=false:=by unfold World.frozen?;rw[e1.out];rfl
 have ca:w1.cell? ⟨w.heap.size+1+1,0,none⟩=some (.int .i64 0):=by unfold World.cell?;rw[a1.out];rfl
 have fa:w1.frozen? ⟨w.heap.size+1+1,0,none⟩=false:=by unfold World.frozen?;rw[a1.out];rfl
 have B1:=aa (B3.out.trans (hb.mono (by omega)));have Sd:w.heap.size+3<=w1.heap.size:=by have:=hb.size;omega
 have tU:=aa hO;have bf:Hid (∀e w',IU (dp f+1) w (if (jd (bl s)).1=0 then Oi (xS (jH (BO f) ((jd (bl s)).2.2++[⟨0,[],(bl s).length⟩]))) else .inl ((jd (bl s)).1,(jd (bl s)).2.1)) e w'->IU (dp f+1) w (qq f (bl s)) e w'):=fun e w' h=>h;obtain⟨a,c,hv⟩:=hO.shape;have aL:=yA (bl s);have tS:=aa (rS (bl s));obtain⟨E,hE⟩:∃E,(jd (bl s)).1=E:=⟨_,rfl⟩
 obtain⟨A,hA⟩:∃A,(jd (bl s)).2.1=A:=⟨_,rfl⟩
 obtain⟨ts,lG⟩:∃ts,(jd (bl s)).2.2=ts:=⟨_,rfl⟩
 rw[hE,hA,lG]at bf;rw[hE,lG]at tS;rw[lG]at aL tU hv;rw[hE,hA];subst hv;have k0:=Z1.out.cells;have z0:=Z1.out.frz;unfold ze zs lf at k0;simp only[vz,aI,aR]at k0;clear hb hO e3 a3 hs hE hA lG vp Z3 B3;by_cases h0:E=0
 ·subst h0
  obtain⟨aJ,bq,eS⟩:=tS.out rfl;have HOK:=aa (eS ((bl s).length:Nat));rw[bl_length]at bq HOK;have R2:∀W2,W2=(w1.setCell ⟨w.heap.size+1,0,none⟩ (.int .i64 (0:Nat))).setCell ⟨w.heap.size+1+1,0,none⟩ (.int .i64 (A:Nat))->RB w.heap.size w (0:Nat) (A:Nat) W2/\OT W2 (w.heap.size+3) (.slice a ts.length c) ts/\W2.heap.size=w1.heap.size:=by
   intro W2 gf;refine⟨⟨?_,?_,?_,?_⟩,?_,by rw[gf];simp⟩
   ·rw[gf];exact(B1.out.setCell (by show w.heap.size<=w.heap.size+1;omega) _).setCell (by show w.heap.size<=w.heap.size+1+1;omega) _
   ·rw[gf,Below.heap_setCell _ _ _ _ (by show w.heap.size≠w.heap.size+1+1;omega),Below.heap_setCell _ _ _ _ (by show w.heap.size≠w.heap.size+1;omega)];exact Z1.out.at_
   ·rw[gf,Below.heap_setCell _ _ _ _ (by show w.heap.size+1≠w.heap.size+1+1;omega),ij e1.out]
   ·rw[gf,ij (B:=w.heap.size+1+1) (v:=.int .i64 0) (T:=3) (by rw[Below.heap_setCell _ _ _ _ (by show w.heap.size+1+1≠w.heap.size+1;omega)];exact a1.out)]
   have hO:=tU.out;rw[LA]at hO;refine aX hO fun k hk hb=>?_;have:=(World.ownsRow.lt hO k hk).1;rw[gf,Below.heap_setCell _ _ _ _ (by show k≠w.heap.size+1+1;omega),Below.heap_setCell _ _ _ _ (by show k≠w.heap.size+1;omega)]
  have R2H:=aa R2;clear R2 Z1 e1 a1 B1 tU;go_wp2_with(go_at_call 59;refine ak.out ?_)
  refine ak.mk ?_;have R3:=R2H.out _ rfl;rw[Int.ofNat_zero]at R3;generalize gf:World.setCell _ _ _=W2 at R3 ⊢;obtain⟨RB2,OT2,xo⟩:=R3;refine(uJ OT2 (by omega) s.size (by omega) (by omega)).mono ?_;rintro e w3 ⟨rfl,ar,qt⟩;have RB3:=RB2.low ar;obtain⟨B,hB⟩:∃B,W2.heap.size=B:=⟨_,rfl⟩
  have iA:=aa ar.size;rw[hB]at qt iA ⊢;have xM:=aa (show w.heap.size+3<=B by omega);have T3:=aa (qt (.cells #[.func (.func 114) #[] #[.pointer (some ⟨B,0,none⟩)],.func (.func 115) #[] #[.pointer (some ⟨B,0,none⟩)]] 83));have RB4:=aa (RB3.low (W1:=w3.alloc (.cells #[.func (.func 114) #[] #[.pointer (some ⟨B,0,none⟩)],.func (.func 115) #[] #[.pointer (some ⟨B,0,none⟩)]] 83)) ((ab (Below.refl w3.heap.size w3)).mono (by have:=iA.out;have:=xM.out;omega)));have gp4:=aa (gp.below RB4.out.bel);have tR:=aa (show 15<=B by have:=g.sz;have:=xM.out;omega);have LB4:=aa (gO w3 B);have If:=aa (hM.out _ B _ ⟨T3.out,HOK.out,gp4.out,tR.out⟩ (by simp;omega));have pQ:Hid (∀e w',IU (dp f+1) w (Oi (xS (jH (BO f) (ts++[⟨0,[],(s.size:Nat)⟩])))) e w'->IU (dp f+1) w (qq f (bl s)) e w'):=fun e w' h=>bf.out e w' (by simp only[if_true,bl_length];exact h);clear bf;generalize hR:jH (BO f) _=R at If pQ;clear gf RB2 RB3 OT2 ar qt R2H ce fe ca fa k0 z0 xo;have Jx:∀(a:Addr) (w:World) (fn:Fn) (first cap:Array Value),(store a (.func fn first cap)).run prog w=stored prog w a (.func fn first cap) .plain:=fun a w fn f c=>run_store prog w a _ .plain rfl;unfold lv at If ⊢;go_wp2_with(go_at_call 26;refine ak.out ?_)
  refine ak.mk ?_;refine If.out.mono ?_;rcases R with p|x
  ·rintro e w5 ⟨bg,rfl⟩
   refine qZ (RB4.out.low (bg.low (by have:=iA.out;simp;omega) |> fun h=>h.mono xM.out)) fun X hX=>?_;exact pQ.out _ _ ⟨hX.bel,rfl⟩
  rintro e w5 ⟨bg,q,rfl,iy,ir⟩;obtain⟨x,l2⟩:=x;have ok2:Hid (kO l2):=aa ((sq (kc f)) _ _ HOK.out hR).1;have RB5:=aa (RB4.out.low (bg.low (by have:=iA.out;simp;omega) |> fun h=>h.mono xM.out));have LB5:=aa (LB4.out.fb bg (by have:=T3.out.sz;rw[World.size_alloc]at this;omega));have K5:=aa iy;obtain⟨b1,b2,b3,b4,b5,b6,b7,b8,b9,b10,b11,b12,aK⟩:=iy.rd.shape;subst aK;have Q5:=aa ir;have S5:=aa bg.size;have kL0:∀o,(w5.alloc o).cell? ⟨w3.heap.size,0,none⟩=some (.func (.func 114) #[] #[.pointer (some ⟨B,0,none⟩)]):=fun o=>(LB5.out.below (ab af)).cells.1;have kL1:∀o,(w5.alloc o).cell? ⟨w3.heap.size,1,none⟩=some (.func (.func 115) #[] #[.pointer (some ⟨B,0,none⟩)]):=fun o=>(LB5.out.below (ab af)).cells.2;have T6:=aa (show B<w3.heap.size by have:=T3.out.sz;rw[World.size_alloc]at this;omega);clear bg ir iy If T3 RB4 gp4 LB4;obtain⟨t,l3,rfl⟩:=ok2.out.cons;have sQ:Hid (∀w',Below w5.heap.size w5 w'->Calls prog 60 #[lv B] w' fun e w''=>WP B w' (mi t l3) e w''):=aa fun w' hb=>zH (Q5.out.below hb);unfold lv at sQ;unfold ecl;go_wp2_with(go_at_call 60;refine ak.out ?_)
  refine ak.mk ?_;refine(sQ.out _ (ab af)).mono ?_;rintro e w6 ⟨da,he⟩;have AP:=S5.out;simp only[World.size_alloc]at AP;have RB6:=aa ((RB5.out.low ((ab (Below.refl w5.heap.size w5)).mono (by have:=iA.out;have:=xM.out;omega))).low (da.low (by simp;have:=iA.out;omega) |> fun h=>h.mono xM.out));have X6:=aa ((bC w5 (ehd (dp f+1) x) ⟨.slice b1 b2 b3,.slice b4 b5 b6,.slice b7 b8 b9,.slice b10 b11 b12⟩).fb da (by have:=iA.out;omega));have K6:=aa ((K5.out.al (o:=.cells (ecl (ehd (dp f+1) x) ⟨.slice b1 b2 b3,.slice b4 b5 b6,.slice b7 b8 b9,.slice b10 b11 b12⟩) 33)).fb da (by simp;have:=T6.out;omega));by_cases Hw:t.w=0
  ·have e1:mi t l3=.inr (t::l3):=by simp[mi,Hw]
   rw[e1]at he;obtain⟨rfl,_⟩:=he;have x0:=X6.out.cells;have k0:=RB6.out.cells;obtain⟨z0,z1,z2⟩:=RB6.out.frz;clear sQ ok2 hR e1;go_wp2_with fail
   have ex1:=tp (h:=ehd (dp f+1) x) (q:=⟨.slice b1 b2 b3,.slice b4 b5 b6,.slice b7 b8 b9,.slice b10 b11 b12⟩) (⟨RB6.out.ex⟩:Ex w6 w.heap.size ze zs);simp only[]at ex1;have e6:=RB6.out.e;have a6:=RB6.out.a;have hK:∀X,Below w.heap.size w X->KE (dp f+1) X x ⟨.slice b1 b2 b3,.slice b4 b5 b6,.slice b7 b8 b9,.slice b10 b11 b12⟩ w.heap.size X.heap.size->IU (dp f+1) w (qq f (bl s)) (.returned (.tuple #[.agg (ecl (ehd (dp f+1) x) ⟨.slice b1 b2 b3,.slice b4 b5 b6,.slice b7 b8 b9,.slice b10 b11 b12⟩),.int .i64 0,.int .i64 0])) X:=fun X h1 h2=>pQ.out _ _ (by simp only[xS,Hw,if_true,Oi];exact⟨h1,_,rfl,h2⟩);clear x0 k0 z0 z1 z2 pQ;generalize hY:World.setCell (World.setCell (World.setCell (World.setCell (World.setCell (World.setCell (World.setCell (World.setCell (World.setCell (World.setCell (World.setCell (World.setCell (World.setCell w6 _ _) _ _) _ _) _ _) _ _) _ _) _ _) _ _) _ _) _ _) _ _) _ _) _ _=Y at ex1 ⊢;have bY:Below w.heap.size w6 Y:=by
    rw[<-hY];iterate 13(refine Below.setCell ?_ (show w.heap.size<=w.heap.size from Nat.le_refl _) _)
    exact af
   have kY:∀j,j≠w.heap.size->Y.heap[j]?=w6.heap[j]?:=fun j hj=>by rw[<-hY];iterate 13(rw[Below.heap_setCell _ _ _ _ (by show j≠w.heap.size;exact hj)])
   have sY:Y.heap.size=w6.heap.size:=by rw[<-hY];simp
   clear hY;refine Dt (h:=ehd (dp f+1) x) ?_ ?_ ?_ (hK _ ?_ ?_)
   ·refine⟨?_⟩
    rw[Below.heap_setCell _ _ _ _ (by show w.heap.size≠w.heap.size+1+1;omega),Below.heap_setCell _ _ _ _ (by show w.heap.size≠w.heap.size+1;omega)];exact ex1.at_
   ·refine(World.cell?_of_block (w:=Y.setCell ⟨w.heap.size+1,0,none⟩ (.int .i64 0)) (Below.heap_setCell _ _ _ _ (by show w.heap.size+1≠w.heap.size+1+1;omega))).trans ?_
    unfold World.cell?;rw[ij ((kY _ (by omega)).trans e6)];rfl
   ·unfold World.cell?
    rw[ij (B:=w.heap.size+1+1) (v:=.int .i64 A) (T:=3) (by rw[Below.heap_setCell _ _ _ _ (by show w.heap.size+1+1≠w.heap.size+1;omega)];exact(kY _ (by omega)).trans a6)];rfl
   ·exact((RB6.out.bel.trans bY).setCell (by show w.heap.size<=w.heap.size+1;omega) _).setCell (by show w.heap.size<=w.heap.size+1+1;omega) _
   have Si:=iA.out;have ai:=xM.out;have Sa:=T6.out;have Vy:w5.heap.size+1<=w6.heap.size:=by have:=da.size;simpa using this
   refine KE.fin (s:=w3.heap.size+1) ((((K6.out.move (W1:=Y) (by omega) fun k h1 h2=>kY k (by simp only[World.size_alloc]at h1;omega)).set ?_).set ?_) |> fun h=>by simpa using h) (by omega)
   ·simp;omega
   simp;omega
  have e1:mi t l3=.inl t.p:=by simp[mi,Hw]
  rw[e1]at he;obtain rfl:=he;refine qZ RB6.out fun X hX=>?_;refine pQ.out _ _ ?_;simp only[xS,Hw,if_false,Oi];exact⟨hX.bel,rfl⟩
 have b0:((E:Int)==0)=false:=by simp;omega
 go_wp2_with fail
 obtain⟨W2,gf⟩:∃W2,(w1.setCell ⟨w.heap.size+1,0,none⟩ (.int .i64 (E:Nat))).setCell ⟨w.heap.size+1+1,0,none⟩ (.int .i64 (A:Nat))=W2:=⟨_,rfl⟩
 have B2:Hid (Below w.heap.size w W2):=by rw[<-gf];exact(B1.out.setCell (by show w.heap.size<=w.heap.size+1;omega) _).setCell (by show w.heap.size<=w.heap.size+1+1;omega) _
 have Z2:Ex W2 w.heap.size ze zs:=⟨by rw[<-gf,Below.heap_setCell _ _ _ _ (by show w.heap.size≠w.heap.size+1+1;omega),Below.heap_setCell _ _ _ _ (by show w.heap.size≠w.heap.size+1;omega)];exact Z1.out.at_⟩
 have e2:W2.heap[w.heap.size+1]?=some (.cells #[.int .i64 (E:Nat)] 34 (0,0)):=by rw[<-gf,Below.heap_setCell _ _ _ _ (by show w.heap.size+1≠w.heap.size+1+1;omega),ij e1.out]
 have a2:W2.heap[w.heap.size+1+1]?=some (.cells #[.int .i64 (A:Nat)] 3 (0,0)):=by rw[<-gf,ij (B:=w.heap.size+1+1) (v:=.int .i64 0) (T:=3) (by rw[Below.heap_setCell _ _ _ _ (by show w.heap.size+1+1≠w.heap.size+1;omega)];exact a1.out)]
 clear k0 z0 ce fe ca fa;have R2:Hid (RB w.heap.size w (E:Nat) (A:Nat) W2):=⟨B2.out,Z2.at_,e2,a2⟩
 clear B2 Z2 e2 a2;rw[gf];clear gf;have k0:=R2.out.cells;obtain⟨z0,z1,z2⟩:=R2.out.frz
 go_region_held3 (fun W=>W.cell? ⟨w.heap.size,0,none⟩=some (.int .i64 0)/\W.cell? ⟨w.heap.size,1,none⟩=some (.string ⟨#[]⟩)/\W.cell? ⟨w.heap.size,2,none⟩=some (.slice none 0 0)/\W.cell? ⟨w.heap.size,3,none⟩=some (.slice none 0 0)/\W.cell? ⟨w.heap.size,4,none⟩=some (.int .i64 0)/\W.cell? ⟨w.heap.size,5,none⟩=some (.bool false)/\W.cell? ⟨w.heap.size,6,none⟩=some (.bool false)/\W.cell? ⟨w.heap.size,7,none⟩=some (.string ⟨#[]⟩)/\W.cell? ⟨w.heap.size,8,none⟩=some (.int .i64 0)/\W.cell? ⟨w.heap.size,9,none⟩=some (.int .u64 0)/\W.cell? ⟨w.heap.size,10,none⟩=some (.string ⟨#[]⟩)/\W.cell? ⟨w.heap.size,11,none⟩=some (.slice none 0 0)/\W.cell? ⟨w.heap.size,12,none⟩=some (.slice none 0 0)/\W.cell? ⟨w.heap.size+1,0,none⟩=some (.int .i64 (E:Nat))/\W.cell? ⟨w.heap.size+1+1,0,none⟩=some (.int .i64 (A:Nat))) (first|(refine RB.cells (w:=w) ?_;(repeat (first|with_reducible (exact R2.out)|with_reducible (refine RB.dr ?_)|with_reducible (refine RB.pa ?_)|with_reducible (refine RB.pe ?_)|with_reducible (refine RB.pz ?_))))) (first|fail)
 have KX:∀X,RB w.heap.size w (E:Nat) (A:Nat) X->IU (dp f+1) w (qq f (bl s)) (.returned (.tuple #[.agg (ecl ze zs),.int .i64 (E:Nat),.int .i64 (A:Nat)])) X:=fun X hX=>bf.out _ _ (by rw[if_neg h0];exact⟨hX.bel,rfl⟩);go_wp2_with fail
 generalize hX:World.drew _=X;have RX:RB w.heap.size w (E:Nat) (A:Nat) X:=by
  rw[<-hX]
  repeat (first|with_reducible (exact R2.out)|with_reducible (refine RB.dr ?_)|with_reducible (refine RB.pa ?_)|with_reducible (refine RB.pe ?_)|with_reducible (refine RB.pz ?_))
 refine⟨.tuple #[.agg (ecl ze zs),.int .i64 (E:Nat),.int .i64 (A:Nat)],?_,KX X RX⟩;clear hX k0 z0 z1 z2 R2 KX;have q0:=RX.cells;simp[results,Tryz.results25,go_sem,q0,ecl,ze,zs,lf,vz,vH,aI,aR]
def Do{n:Nat}(C:ET n->Int)(o:Sum (Int×Int) (ET n)):Sum (Int×Int) (ET n):=match o with
 | .inl y=>.inl y
 | .inr x=>if C x=0 then .inr x else .inl (2,0)
theorem nO(hP:aW)(f:Nat)(hf:1025<=f)(s:ByteArray)(w:World)(g:Gg w)(gp:Gp w)(hz:s.size<=1000000)(C:ET (dp f+1)->Int)
  (hE:∀y,qq f (bl s)=.inl y->y.1≠0)
  (hC:∀(x:ET (dp f+1)) (q:Sl) (W:World),qq f (bl s)=.inr x->RE (dp f+1) W x q->Below w.heap.size w W->Calls prog 16 #[.agg (ecl (ehd (dp f+1) x) q)] W fun e w'=>e=.returned (.int .i64 (C x))/\Below W.heap.size W w') :
  Calls prog 9 #[.string s] w fun e w'=>IU (dp f+1) w (Do C (qq f (bl s))) e w':=by
 have H:=aa (fun o=>De hP f hf s (w.alloc o) (g.below (ab af) (by have:=g.sz;omega)) (gp.below (ab af)) hz);have HC:=aa hC;have HE:=aa hE;clear hP g gp hC hE;obtain⟨R,hR⟩:∃R,qq f (bl s)=R:=⟨_,rfl⟩
 rw[hR]at H HC HE ⊢;clear hR;have bm:w.heap.size<w.heap.size+1:=Nat.lt_succ_self _;go_enter func9,ntmps9;go_wp2_with(go_at_call 25;refine ak.out ?_)
 refine ak.mk ?_;refine(H.out _).mono ?_;rcases R with⟨er,p⟩|x
 ·rintro e w1 ⟨hb,rfl⟩
  have h0:=HE.out _ rfl;simp only at h0;have Z1:=aa (((jY w)).below hb);have B1:=aa (ac (ab af) hb);have b0:(er==0)=false:=by simp[h0]
  have k0:=Z1.out.cells;have z0:=Z1.out.frz;have kl:=Z1.out.lt;clear hb H HC HE;unfold ecl ze zs lf at *
  simp only[vz,aI,aR]at *
  go_wp2_with fail
  have ex1:=tp (h:=ze) (q:=zs) Z1.out;simp only[ze,zs,lf,vz,aI,aR,vH]at ex1;generalize hY:World.setCell (World.setCell (World.setCell (World.setCell (World.setCell (World.setCell (World.setCell (World.setCell (World.setCell (World.setCell (World.setCell (World.setCell (World.setCell w1 _ _) _ _) _ _) _ _) _ _) _ _) _ _) _ _) _ _) _ _) _ _) _ _) _ _=Y at ex1 ⊢;have bY:Below w.heap.size w1 Y:=by
   rw[<-hY];iterate 13(refine Below.setCell ?_ (show w.heap.size<=w.heap.size from Nat.le_refl _) _)
   exact af
  clear hY k0 z0;generalize hW:World.alloc Y _=X;have xX:Ex X w.heap.size ze zs:=by rw[<-hW];exact ex1.below (ab af)
  have bX:Below w.heap.size w X:=by rw[<-hW];exact(B1.out.trans bY).alloc (by have:=ex1.lt;omega) _
  clear hW;have q0:=xX.cells;unfold ze zs lf at q0;simp only[vz,aI,aR]at q0;refine bodyPost_ret (v:=.tuple #[.agg (ecl ze zs),.int .i64 er,.int .i64 p]) (by simp[results,Tryz.results9,go_sem,q0,ecl,ze,zs,lf,vz,vH,aI,aR]) rfl ⟨bX,rfl⟩
 rintro e w1 ⟨hb,q,rfl,hk⟩;obtain⟨b1,b2,b3,b4,b5,b6,b7,b8,b9,b10,b11,b12,aK⟩:=hk.rd.shape;subst aK;have Z1:=aa ((jY w).below hb);have B1:=aa (ac (ab af) hb);have K1:=aa hk;have hc:=aa (HC.out x _ (w1.alloc (.cells (ecl (ehd (dp f+1) x) ⟨.slice b1 b2 b3,.slice b4 b5 b6,.slice b7 b8 b9,.slice b10 b11 b12⟩) 33)) rfl (hk.al.rd) (ab B1.out));obtain⟨c,Ba⟩:∃c,C x=c:=⟨_,rfl⟩
 rw[Ba]at hc;have HX:=aa Ba;clear hb hk H HC HE Ba;simp only[ecl]at hc ⊢;go_wp2_with(go_at_call 16;refine ak.out ?_)
 refine ak.mk ?_;refine hc.out.mono ?_;rintro e w2 ⟨rfl,aq⟩;have Z2:=aa ((Z1.out.below (ab af)).below aq);have X2:=aa ((bC w1 (ehd (dp f+1) x) ⟨.slice b1 b2 b3,.slice b4 b5 b6,.slice b7 b8 b9,.slice b10 b11 b12⟩).below aq);have K2:=aa (K1.out.al.below aq);have B2:=aa (ac (ab B1.out) aq);clear aq hc;have z0:=Z2.out.frz;have k1:=X2.out.cells;by_cases h0:c=0
 ·have k0:=Z2.out.cells
  subst h0;go_wp2_with fail
  have ex1:=tp (h:=ehd (dp f+1) x) (q:=⟨.slice b1 b2 b3,.slice b4 b5 b6,.slice b7 b8 b9,.slice b10 b11 b12⟩) Z2.out;simp only[]at ex1;generalize hY:World.setCell (World.setCell (World.setCell (World.setCell (World.setCell (World.setCell (World.setCell (World.setCell (World.setCell (World.setCell (World.setCell (World.setCell (World.setCell w2 _ _) _ _) _ _) _ _) _ _) _ _) _ _) _ _) _ _) _ _) _ _) _ _) _ _=Y at ex1 ⊢;have bY:Below w.heap.size w2 Y:=by
   rw[<-hY];iterate 13(refine Below.setCell ?_ (show w.heap.size<=w.heap.size from Nat.le_refl _) _)
   exact af
  have kY:∀j,j≠w.heap.size->Y.heap[j]?=w2.heap[j]?:=fun j hj=>by rw[<-hY];iterate 13(rw[Below.heap_setCell _ _ _ _ (by show j≠w.heap.size;exact hj)])
  have sY:Y.heap.size=w2.heap.size:=by rw[<-hY];simp
  clear hY k0 z0 k1;have q0:=ex1.cells;refine bodyPost_ret (v:=.tuple #[.agg (ecl (ehd (dp f+1) x) ⟨.slice b1 b2 b3,.slice b4 b5 b6,.slice b7 b8 b9,.slice b10 b11 b12⟩),.int .i64 0,.int .i64 0]) (by simp[results,Tryz.results9,go_sem,q0,ecl]) rfl ?_;simp only[Do,HX.out,if_true];refine⟨B2.out.trans bY,_,rfl,?_⟩;have eR:=K2.out.2.1;exact KE.fin (K2.out.move (W1:=Y) (by omega) fun k h1 h2=>kY k (by simp only[World.size_alloc]at h1;omega)) (by simp only[World.size_alloc];omega)
 have b0:(c==0)=false:=by simp[h0]
 have k0:=Z2.out.cells;unfold ze zs lf at k0;simp only[vz,aI,aR]at k0;clear k1;go_wp2_with fail
 have ex1:=tp (h:=ze) (q:=zs) Z2.out;simp only[ze,zs,lf,vz,aI,aR,vH]at ex1;generalize hY:World.setCell (World.setCell (World.setCell (World.setCell (World.setCell (World.setCell (World.setCell (World.setCell (World.setCell (World.setCell (World.setCell (World.setCell (World.setCell w2 _ _) _ _) _ _) _ _) _ _) _ _) _ _) _ _) _ _) _ _) _ _) _ _) _ _=Y at ex1 ⊢;have bY:Below w.heap.size w2 Y:=by
  rw[<-hY];iterate 13(refine Below.setCell ?_ (show w.heap.size<=w.heap.size from Nat.le_refl _) _)
  exact af
 clear hY k0 z0;have q0:=(show Ex Y w.heap.size ze zs from ex1).cells;unfold ze zs lf at q0;simp only[vz,aI,aR]at q0;refine bodyPost_ret (v:=.tuple #[.agg (ecl ze zs),.int .i64 2,.int .i64 0]) (by simp[results,Tryz.results9,go_sem,q0,ecl,ze,zs,lf,vz,vH,aI,aR]) rfl ?_;simp only[Do,HX.out,h0,if_false];exact⟨B2.out.trans bY,rfl⟩
end Lx
