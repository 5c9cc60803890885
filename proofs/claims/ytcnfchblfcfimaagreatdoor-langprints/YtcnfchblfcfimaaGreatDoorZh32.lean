import Derived.Deep.Strs
import Derived.SizedLaws
import Derived.Test.YtcnfchblfcfimaaGreatDoorZh18
import Derived.Test.YtcnfchblfcfimaaGreatDoorZh25
import Derived.Test.YtcnfchblfcfimaaGreatDoorZh28
import Derived.Test.YtcnfchblfcfimaaGreatDoorZh31
set_option linter.all false
set_option maxHeartbeats 2000000
set_option maxRecDepth 100000
namespace Go.Proofs.YtcnfchblfcfimaaGreatDoor
open Proofs.Tryz RowKit
section
open Go.ChangeShapes Go.WideShapes Go.ChangeAt Go.RowKit Go.Joins
theorem Vm:ownKnob Tryz.prog.godebug=none:=by kernel_rfl
theorem Hm:laidOutB prog=true:=by kernel_rfl
theorem cV:Tryz.prog.cellsOf 31=9:=by kernel_rfl
theorem cN:Tryz.prog.cellsOf 27=3:=by kernel_rfl
theorem c9:Tryz.prog.cellsOf 9=1:=by kernel_rfl
theorem c4:Tryz.prog.cellsOf 4=1:=by kernel_rfl
theorem c3:Tryz.prog.cellsOf 3=1:=by kernel_rfl
theorem cK:Tryz.prog.cellsOf 25=1:=by kernel_rfl
theorem cU:Tryz.prog.cellsOf 28=1:=by kernel_rfl
theorem cS:Tryz.prog.cellsOf 23=1:=by kernel_rfl
theorem cL:Tryz.prog.cellsOf 29=1:=by kernel_rfl
theorem UR:Tryz.prog.bytesOf 9=16:=by kernel_rfl
theorem RI{cs:List Value}(h:cs.length=9):∃a0 a1 a2 a3 a4 a5 a6 a7 a8,cs=[a0,a1,a2,a3,a4,a5,a6,a7,a8]:=by
 match cs,h with
 | [a0,a1,a2,a3,a4,a5,a6,a7,a8],_=>exact⟨_,_,_,_,_,_,_,_,_,rfl⟩
theorem je{H:Type}{P:Program}{e:TypeId}{ds:List (DataW H)}{d:DataW H}(hd:d∈ds){n:Nat}(hn:n∈DataW.weights P e d):n∈DataW.weightsAll P e ds:=by
 induction ds with
 |nil=>cases hd
 |cons x xs ih=>
  simp only[DataW.weightsAll,List.mem_append];rcases List.mem_cons.1 hd with rfl|h
  ·exact Or.inl hn
  exact Or.inr (ih h)
theorem tX{H:Type}{P:Program}{t:TypeId}{ts:List TypeId}{d:DataW H}{ds:List (DataW H)}:DataW.weightsEach P (t::ts) (d::ds)=DataW.weights P t d++DataW.weightsEach P ts ds:=rfl
theorem sv{α:Type}{p:Nat->α->Prop}:∀(len:Nat),(∀i,i<len->∃a,p i a)->∃l:List α,l.length=len/\∀i (h:i<l.length),p i l[i]
 |0,_=>⟨[],rfl,fun i h=>by simp at h⟩
 |n+1,h=>by
  obtain⟨l,hl,hp⟩:=sv n (fun i hi=>h i (by omega));obtain⟨a,ha⟩:=h n (by omega);refine⟨l++[a],by simp[hl],fun i hi=>?_⟩;by_cases q:i<l.length
  ·rw[List.getElem_append_left q];exact hp i q
  have:i=n:=by simp at hi;omega
  subst this;rw[List.getElem_append_right (by omega)];simp[hl,ha]
theorem gA{w:World}{a:Addr}{v:Value}(h:w.cell? a=some v):a.spot=none:=by
 unfold World.cell? at h
 split at h
 ·cases hs:a.spot with
  |none=>rfl
  |some q=>rw[hs]at h;simp at h
 cases h
theorem ny{a:Addr}(h:a.spot=none)(i:Nat):a.add i=⟨a.block,a.off+i,none⟩:=by obtain⟨b,o,sp⟩:=a;simp only at h;subst h;exact Addr.add_mid b o i
theorem gH{n:Nat}(h:n<=reachBytes):n<=281474976710656:=by
 have:reachBytes=140737488351232:=by decide
 omega
section
variable {H : Type} {enc : TypeId × Value → H} {W : World}
theorem KI:∀(fuel N:Nat),fuel<=N->∀(cs:List Value) (x:DataW H×List MemPlace),DataW.trod enc prog W 0 (fun _=>true) true fuel 31 cs=some x ->
  (∀q∈x.2,q.block<W.heap.size)->(∀k∈DataW.weights prog 31 x.1,k<=reachBytes)->∃(t:VT N) (ns ls:Value),cs=(aP (aI N t) ns ls).toList/\RD N W t ns ls/\Sz N t:=by
 intro fuel
 induction fuel using Nat.strongRecOn with
 |ind fuel ih=>
  intro N hN cs x h hp hw;obtain⟨xs,n,rfl,rfl,aL,xh,qM⟩:=DataW.trod_struct Tryz.underlying31 h;obtain⟨M,rfl⟩:∃M,N=M+1:=⟨N-1,by omega⟩
  rw[cV]at aL;obtain⟨a0,a1,a2,a3,a4,a5,a6,a7,a8,rfl⟩:=RI aL;obtain⟨x0,x1,x2,x3,x4,x5,x6,rfl⟩:∃x0 x1 x2 x3 x4 x5 x6,xs=[x0,x1,x2,x3,x4,x5,x6]:=by
   match xs,xh with
   | [x0,x1,x2,x3,x4,x5,x6],_=>exact⟨_,_,_,_,_,_,_,rfl⟩
  have e0:=qM 0 _ rfl;have e1:=qM 1 _ rfl;have e2:=qM 2 _ rfl;have e3:=qM 3 _ rfl;have e4:=qM 4 _ rfl;have e5:=qM 5 _ rfl;have e6:=qM 6 _ rfl
  replace e0:DataW.trod enc prog W 0 (fun _=>true) true n 25 (([a0,a1,a2,a3,a4,a5,a6,a7,a8].drop 0).take (Tryz.prog.cellsOf 25))=some x0:=e0
  rw[cK]at e0
  replace e1:DataW.trod enc prog W 0 (fun _=>true) true n 4 (([a0,a1,a2,a3,a4,a5,a6,a7,a8].drop 1).take (Tryz.prog.cellsOf 4))=some x1:=e1
  rw[c4]at e1
  replace e2:DataW.trod enc prog W 0 (fun _=>true) true n 27 (([a0,a1,a2,a3,a4,a5,a6,a7,a8].drop 2).take (Tryz.prog.cellsOf 27))=some x2:=e2
  rw[cN]at e2
  replace e3:DataW.trod enc prog W 0 (fun _=>true) true n 28 (([a0,a1,a2,a3,a4,a5,a6,a7,a8].drop 5).take (Tryz.prog.cellsOf 28))=some x3:=e3
  rw[cU]at e3
  replace e4:DataW.trod enc prog W 0 (fun _=>true) true n 9 (([a0,a1,a2,a3,a4,a5,a6,a7,a8].drop 6).take (Tryz.prog.cellsOf 9))=some x4:=e4
  rw[c9]at e4
  replace e5:DataW.trod enc prog W 0 (fun _=>true) true n 23 (([a0,a1,a2,a3,a4,a5,a6,a7,a8].drop 7).take (Tryz.prog.cellsOf 23))=some x5:=e5
  rw[cS]at e5
  replace e6:DataW.trod enc prog W 0 (fun _=>true) true n 29 (([a0,a1,a2,a3,a4,a5,a6,a7,a8].drop 8).take (Tryz.prog.cellsOf 29))=some x6:=e6
  rw[cL]at e6
  replace e0:DataW.trod enc prog W 0 (fun _=>true) true n 25 [a0]=some x0:=e0
  replace e1:DataW.trod enc prog W 0 (fun _=>true) true n 4 [a1]=some x1:=e1
  replace e2:DataW.trod enc prog W 0 (fun _=>true) true n 27 [a2,a3,a4]=some x2:=e2
  replace e3:DataW.trod enc prog W 0 (fun _=>true) true n 28 [a5]=some x3:=e3
  replace e4:DataW.trod enc prog W 0 (fun _=>true) true n 9 [a6]=some x4:=e4
  replace e5:DataW.trod enc prog W 0 (fun _=>true) true n 23 [a7]=some x5:=e5
  replace e6:DataW.trod enc prog W 0 (fun _=>true) true n 29 [a8]=some x6:=e6
  obtain⟨kd,q0,rfl,_⟩:=DataW.trod_int Tryz.underlying25 e0;obtain⟨fl,q1,rfl⟩:=DataW.trod_bool Tryz.underlying4 e1;obtain⟨ys,n2,rfl,rfl,_,Ga,Mg⟩:=DataW.trod_struct Tryz.underlying27 e2;obtain⟨y0,y1,y2,rfl⟩:∃y0 y1 y2,ys=[y0,y1,y2]:=by
   match ys,Ga with
   | [y0,y1,y2],_=>exact⟨_,_,_,rfl⟩
  have g0:=Mg 0 _ rfl;have g1:=Mg 1 _ rfl;have g2:=Mg 2 _ rfl
  replace g0:DataW.trod enc prog W 0 (fun _=>true) true n2 4 (([a2,a3,a4].drop 0).take (Tryz.prog.cellsOf 4))=some y0:=g0
  rw[c4]at g0
  replace g1:DataW.trod enc prog W 0 (fun _=>true) true n2 9 (([a2,a3,a4].drop 1).take (Tryz.prog.cellsOf 9))=some y1:=g1
  rw[c9]at g1
  replace g2:DataW.trod enc prog W 0 (fun _=>true) true n2 3 (([a2,a3,a4].drop 2).take (Tryz.prog.cellsOf 3))=some y2:=g2
  rw[c3]at g2
  replace g0:DataW.trod enc prog W 0 (fun _=>true) true n2 4 [a2]=some y0:=g0
  replace g1:DataW.trod enc prog W 0 (fun _=>true) true n2 9 [a3]=some y1:=g1
  replace g2:DataW.trod enc prog W 0 (fun _=>true) true n2 3 [a4]=some y2:=g2
  obtain⟨ng,p0,rfl⟩:=DataW.trod_bool Tryz.underlying4 g0;obtain⟨dg,p1,rfl,_⟩:=DataW.trod_string Tryz.underlying9 g1;obtain⟨ex,p2,rfl,_⟩:=DataW.trod_int Tryz.underlying3 g2;obtain⟨bt,q3,rfl,_⟩:=DataW.trod_int Tryz.underlying28 e3;obtain⟨tx',q4,rfl,_⟩:=DataW.trod_string Tryz.underlying9 e4;simp only[List.cons.injEq,and_true]at q0 q1 q3 q4 p0 p1 p2;subst q0 q1 q3 q4 p0 p1 p2;have sJ:∀k,(k∈DataW.weights prog 23 x5.1\/k∈DataW.weights prog 29 x6.1\/k=tx'.size\/k=dg.size)->k<=reachBytes:=by
   intro k hk;apply hw;simp only[DataW.weights,Tryz.underlying31,Tryz.underlying27,List.map_cons,List.map_nil,tX,List.mem_append,DataW.weightsEach];rcases hk with q|q|q|q
   ·simp[q]
   ·simp[q]
   ·subst q;simp
   subst q;simp
  have VO:∀q∈x5.2,q.block<W.heap.size:=fun q hq=>hp q (by simp[hq]);have Py:∀q∈x6.2,q.block<W.heap.size:=fun q hq=>hp q (by simp[hq]);have Gf:∃nm:List ByteArray,NL W a7 nm/\nm.length<=281474976710656/\∀s∈nm,s.size<=281474976710656:=by
   rcases Deep.open_strs Tryz.underlying23 Tryz.underlying9 c9 e5 with⟨kZ,hx⟩|⟨a,len,cap,m,Sx,kZ,_,hl,hm,Ca,hx,hc⟩
   ·simp only[List.cons.injEq,and_true]at kZ
    exact⟨[],Or.inl ⟨kZ,rfl⟩,by simp,by intro s hs;simp at hs⟩
   simp only[List.cons.injEq,and_true]at kZ;simp only[if_true]at Ca;subst Ca;subst hx;have iu:((List.range len).map Sx).length=len:=by simp
   refine⟨(List.range len).map Sx,Or.inr ⟨a.block,a.off,m,a.spot,by rw[kZ,iu],by rw[iu];exact hl,hm,fun h0=>⟨?_,?_⟩,fun i hi=>?_⟩,?_,?_⟩
   ·rw[iu]at h0
    exact gA (a:=a) (hc 0 (by omega)).1
   ·rw[iu]at h0
    exact VO (.cell a.block (a.off+0)) (MemPlace.mem_row.2 ⟨0,by omega,rfl⟩)
   ·rw[iu]at hi
    have:=(hc i (by omega)).1;have ow:a.spot=none:=gA (a:=a) (hc 0 (by omega)).1;rw[ny ow]at this;rw[this,List.getElem_map,List.getElem_range]
   ·rw[iu]
    have:=sJ ((len+(m-len))*16) (Or.inl (by simp[DataW.weights,Tryz.underlying23,UR]));have:=gH this;omega
   intro s hs;obtain⟨i,hi,rfl⟩:=List.mem_map.1 hs;refine gH (sJ _ (Or.inl ?_));simp only[DataW.weights,Tryz.underlying23,List.mem_cons,List.mem_append];refine Or.inr (Or.inl (je (d:=.lit (.string (Sx i).data.toList)) (List.mem_map.2 ⟨i,hi,rfl⟩) ?_));simp[DataW.weights]
  have Ig:∃l:List (VT M),((a8=.slice none 0 0/\l=[])\/∃(b o c:Nat) (sp:Option Nat),a8=.slice (some ⟨b,o,sp⟩) l.length c/\l.length<=c/\c<=maxLen/\(0<l.length->sp=none/\b<W.heap.size) /\
   ∀i (h:i<l.length),∃ns' ls',W.rangeAt b (o+i*9) (aP (aI M l[i]) ns' ls').toList/\RD M W l[i] ns' ls')/\∀y∈l,Sz M y:=by
   rcases DataW.trod_slice Tryz.underlying29 e6 with⟨kZ,hx⟩|⟨a,len,cap,elems,rest,n3,zn,kZ,hx,_,hl,hm,hlen2,hele,gy,_⟩
   ·simp only[List.cons.injEq,and_true]at kZ
    exact⟨[],Or.inl ⟨kZ,rfl⟩,by intro s hs;simp at hs⟩
   simp only[List.cons.injEq,and_true]at kZ;subst hx;rw[cV]at hele Py;have key:∀i,i<len->∃t:VT M,(∃ns' ls',W.rangeAt a.block (a.off+i*9) (aP (aI M t) ns' ls').toList/\RD M W t ns' ls')/\Sz M t/\(a.add (i*9)).spot=none:=by
    intro i hi;have he:=hele i hi;rw[List.getElem?_eq_getElem (by omega)]at he;obtain⟨cs',hcells,RZ⟩:=Option.bind_eq_some_iff.1 he;obtain⟨_,Bb,vQ⟩:=World.cells?_some hcells;have jJ:elems[i]'(by omega)∈elems:=List.getElem_mem _;obtain⟨t,ns',ls',r1,r2,r3⟩:=ih n3 (by omega) M (by omega) cs' _ RZ
     (fun q hq=>Py q (List.mem_append.2 (Or.inr (List.mem_flatMap.2 ⟨_,List.mem_append.2 (Or.inl jJ),hq⟩))))
     (fun k hk=>sJ k (Or.inr (Or.inl (by simp only[DataW.weights,Tryz.underlying29,List.mem_cons,List.mem_append];exact Or.inr (Or.inl (je (List.mem_map.2 ⟨_,jJ,rfl⟩) hk))))))
    have vM:(a.add (i*9)).spot=none:=by have q:=vQ 0 (by omega);have q2:cs'[0]?=some cs'[0]:=List.getElem?_eq_getElem (by omega);rw[q2]at q;exact gA (a:=a.add (i*9)) (by simpa [Addr.add] using q)
    have Qe:(a.add (i*9)).block=a.block/\(a.add (i*9)).off=a.off+i*9:=by
     unfold Addr.add
     split
     ·rename_i q;rw[q];exact⟨rfl,rfl⟩
     exact⟨rfl,rfl⟩
    refine⟨t,⟨ns',ls',?_,r2⟩,r3,vM⟩;rw[<-r1];intro j v hj;have SX:j<9:=by have:=(List.getElem?_eq_some_iff.1 hj).1;omega
    have q:=vQ j SX;rw[hj,ny vM,Qe.1,Qe.2]at q;exact q
   obtain⟨l,iu,LZ⟩:=sv len key;refine⟨l,Or.inr ⟨a.block,a.off,cap,a.spot,by rw[kZ,iu],by rw[iu];exact hl,hm,fun h0=>⟨?_,?_⟩,fun i hi=>(LZ i hi).1⟩,?_⟩
   ·have:=(LZ 0 h0).2.2
    simpa [Addr.add] using this
   ·exact Py (.cell a.block (a.off+0)) (List.mem_append.2 (Or.inl (MemPlace.mem_row.2 ⟨0,by omega,rfl⟩)))
   intro y hy;obtain⟨i,hi,rfl⟩:=List.mem_iff_getElem.1 hy;exact(LZ i hi).2.1
  obtain⟨nm,cm,df,zn⟩:=Gf;obtain⟨l,aJ,bq⟩:=Ig;exact⟨(⟨kd,fl,ng,dg,ex,bt,tx',nm⟩,l),a7,a8,rfl,⟨cm,aJ⟩,⟨gH (sJ _ (Or.inr (Or.inr (Or.inl rfl)))),gH (sJ _ (Or.inr (Or.inr (Or.inr rfl)))),df,zn,bq⟩⟩
end
end
theorem nO(s:ByteArray)(w:World)(hs:s.size<=100000):Calls prog 155 #[.string s] w fun e w'=>e=ji (cx (bl s))/\Below w.heap.size w w':=by
 unfold cx;cases h:dv (bl s)with
 |none=>exact wR s w hs h
 |some r=>
  obtain⟨n,wh,fr,pn,pw⟩:=r;simp only;rw[bl_length];by_cases hl:512<s.size
  ·rw[if_pos hl];exact wS s w hs n wh fr pn pw h hl
  rw[if_neg hl];by_cases dL:fr.length=0
  ·by_cases hw:wh.length<512
   ·exact si s w (by omega) n wh fr pn pw h dL hw
   exact sg s w (by omega) n wh fr pn pw h dL hw
  exact sd s w (by omega) n wh fr pn pw h dL
theorem Bl{neg:Bool}{d:List Nat}{x:Int}(hd:pi d){b:Bool}{s:ByteArray}{y:Int}(h:cg neg d x=(b,s,y,0)):eI b s y=true:=by
 unfold cg at h;by_cases hz:lz d=d.length
 ·rw[if_pos hz]at h
  simp only[Prod.mk.injEq]at h;obtain⟨rfl,rfl,rfl,_⟩:=h;rfl
 rw[if_neg hz]at h;have bm:lz d<d.length:=by have:=yX d;omega
 obtain⟨hc,aQ⟩:=vA d bm hd;by_cases hf:(gb d).length<=40/\-400<=x+tz (dz d)/\x+tz (dz d)<=400
 ·rw[if_pos hf]at h
  simp only[Prod.mk.injEq]at h;obtain⟨rfl,rfl,rfl,_⟩:=h;have ho:=yU (gb d) (x+tz (dz d)) hc aQ hf.1 hf.2.1 hf.2.2;simp[eI,ho]
 rw[if_neg hf]at h;simp only[Prod.mk.injEq]at h;exact absurd h.2.2.2 (by decide)
theorem wT{l:List UInt8}{b:Bool}{s:ByteArray}{y:Int}(h:cx l=(b,s,y,0)):eI b s y=true:=by
 unfold cx at h;cases hs:dv l with
 |none=>
  rw[hs]at h;simp only[Prod.mk.injEq]at h;exact absurd h.2.2.2 (by decide)
 |some r=>
  obtain⟨n,wh,fr,pn,pw⟩:=r;rw[hs]at h;simp only at h;obtain⟨f1,f2,_⟩:=fj hs
  split at h
  ·simp only[Prod.mk.injEq]at h
   exact absurd h.2.2.2 (by decide)
  refine Bl (fun d hd=>?_) h;rcases List.mem_append.1 hd with q|q
  ·exact du wh f1 d q
  exact du fr f2 d q
theorem uH{l:List UInt8}(h:(cx l).2.2.2≠0):cx l=(false,⟨#[]⟩,0,(cx l).2.2.2):=by
 revert h
 unfold cx;cases dv l with
 |none=>intro _;rfl
 |some r=>
  obtain⟨n,wh,fr,pn,pw⟩:=r;simp only
  split
  ·intro _;rfl
  unfold cg
  split
  ·intro h;exact absurd rfl h
  split
  ·intro h;exact absurd rfl h
  intro _;rfl
namespace Lx
def GH(h:Eh):Prop:=h.name.size<=281474976710656/\h.names.length<=100000/\(∀s∈h.names,s.size<=281474976710656)/\Sz h.vn h.val/\jA h.vn h.val<=200000
def GE:(n:Nat)->ET n->Prop
 |0,_=>True
 |n+1,x=>GH x.1/\x.2.length<=100000/\∀y∈x.2,GE n y
theorem kM:∀(n:Nat) (x:ET n),1<=aM n x
 |0,x=>Empty.elim x
 |n+1,x=>by simp only[aM];omega
theorem tu:∀(n:Nat) (x:ET n),aM (n+1) (qp n x)=aM n x
 |0,x=>Empty.elim x
 |n+1,x=>by have e:(aM (n+1))∘(qp n)=aM n:=funext (tu n);show 1+aA ((x.2.map (qp n)).map (aM (n+1)))=1+aA (x.2.map (aM n));rw[List.map_map,e]
theorem GE.up:∀ {n:Nat} {x:ET n},GE n x->GE (n+1) (qp n x)
 |0,x,_=>Empty.elim x
 |n+1,x,h=>by refine⟨h.1,by show(x.2.map (qp n)).length<=_;rw[List.length_map];exact h.2.1,fun y hy=>?_⟩;obtain⟨z,hz,rfl⟩:=List.mem_map.1 (show y∈x.2.map (qp n)from hy);exact(h.2.2 z hz).up
theorem iP{α:Type}(f:α->Nat)(hf:∀x,1<=f x):∀l:List α,l.length<=aA (l.map f)
 | []=>Nat.le_refl _
 |a::l=>by have:=iP f hf l;have:=hf a;simp only[List.map_cons,aA,List.length_cons];omega
def Kd{m:Nat}(S:List Tk->Sum Int (ET m×List Tk)):Prop:=∀l x,kO l->l.length<=100000->S l=.inr x->GE m x.1/\aM m x.1+x.2.length<=l.length
theorem zR(k:Int)(fl neg:Bool)(dig:ByteArray)(ex:Int)(tx:ByteArray)(h1:tx.size<=281474976710656)(h2:dig.size<=281474976710656):Sz 1 (vH k fl neg dig ex tx)/\jA 1 (vH k fl neg dig ex tx)<=200000:=by
 refine⟨⟨h1,h2,Nat.zero_le _,fun s hs=>?_,fun y hy=>?_⟩,by show 1+0<=200000;omega⟩
 ·exact absurd hs (by simp[vH])
 exact absurd hy (by simp[vH])
theorem fp:aR.size<=281474976710656:=by decide
theorem Fg(op:Int):GH (lf op):=by obtain⟨h1,h2⟩:=zR 0 false false aR 0 aR fp fp;exact⟨fp,Nat.zero_le _,fun s hs=>absurd hs (by simp[lf]),h1,h2⟩
theorem ag(l:List UInt8):(aj l).size=l.length:=by simp[aj,ByteArray.size]
theorem Ay(l:List UInt8):(cx l).2.1.size<=281474976710656:=by
 by_cases h:(cx l).2.2.2=0
 ·obtain⟨⟨b,d,x,E⟩,hp⟩:∃p,cx l=p:=⟨_,rfl⟩
  rw[hp]at h ⊢;simp only at h;subst h;have:=(Hr (wT hp)).1;show d.size<=_;omega
 rw[uH h];show(ByteArray.size ⟨#[]⟩)<=_;decide
theorem TR{l:List Tk}{v:VT 1×List Tk}(h:kO l)(e:qS l=.inr v):Sz 1 v.1/\jA 1 v.1<=200000:=by
 obtain⟨t,r,rfl⟩:=h.cons;have hs:(aj t.s).size<=281474976710656:=by rw[ag];have:=h.short;omega
 simp only[qS]at e
 repeat' split at e
 all_goals first|(cases e;exact zR _ _ _ _ _ _ (by first|exact hs|exact fp) (by first|exact fp|exact Ay _))|cases e
theorem yT{m:Nat}{S:List Tk->Sum Int (ET m×List Tk)}(hS:Gd S)(hK:Kd S):∀(g:Nat) (acc:List (ET m)) (l:List Tk) (y:List (ET m)×List Tk),kO l->l.length<=100000->(∀x∈acc,GE m x)->gM S g acc l=.inr y->(∀x∈y.1,GE m x)/\acc.length<=y.1.length/\aA (y.1.map (aM m))+(y.1.length-acc.length)+y.2.length<=aA (acc.map (aM m))+l.length
 |0,_,_,_,_,_,_,e=>by cases e
 |g+1,acc,l,y,h,hl,ha,e=>by
  have hn:=fI (m:=[59]) h (by simp);unfold gM at e
  split at e
  ·rename_i k
   have n1:=hn.1 k
   split at e
   ·cases e
   rename_i x ex;have n2:=hS _ _ n1.1 ex;have aJ:(cq [59] l).2.length<=100000:=by have:=n1.2;omega
   obtain⟨g1,g2⟩:=hK _ _ n1.1 aJ ex;obtain⟨q1,q2,q3⟩:=yT hS hK g (acc++[x.1]) _ _ n2.1 (by have:=n2.2;omega) (fun z hz=>by
    rcases List.mem_append.1 hz with h|h
    ·exact ha z h
    rw[List.mem_singleton.1 h];exact g1) e
   refine⟨q1,by simp at q2;omega,?_⟩;simp only[List.map_append,List.map_cons,List.map_nil,gG,aA,List.length_append,List.length_cons,List.length_nil]at q2 q3;have:=n1.2;omega
  rename_i k;cases e;have k':(cq [59] l).1=false:=by simpa using k
  rw[hn.2 k'];exact⟨ha,Nat.le_refl _,by simp⟩
theorem GZ{m:Nat}(l:List (ET m))(h0:1<=l.length)(hl:l.length<=100000)(h:∀x∈l,GE m x):GE (m+1) (pL l)/\aM (m+1) (pL l)<=aA (l.map (aM m))+(l.length-1):=by
 match l,h0 with
 | [y],_=>exact⟨(h y (by simp)).up,by rw[show pL [y]=qp m y from rfl,tu];simp[aA]⟩
 |a::b::l,_=>exact⟨⟨Fg 12,hl,h⟩,by show 1+aA ((a::b::l).map (aM m))<=_;simp only[List.length_cons];omega⟩
theorem DG{m:Nat}{S:List Tk->Sum Int (ET m×List Tk)}(hS:Gd S)(hK:Kd S):Kd (jH S):=by
 intro l x h hl e;unfold jH at e
 split at e
 ·cases e
 rename_i y ey;have n1:=hS _ _ h ey;obtain⟨g1,g2⟩:=hK _ _ h hl ey
 split at e
 ·cases e
 rename_i z ez;cases e;obtain⟨q1,q2,q3⟩:=yT hS hK _ _ _ _ n1.1 (by have:=n1.2;omega) (fun z hz=>by rw[List.mem_singleton.1 hz];exact g1) ez;simp only[List.map_cons,List.map_nil,aA,List.length_cons,List.length_nil]at q2 q3;have Vo:z.1.length<=100000:=by have:=iP (aM m) (kM m) z.1;omega
 obtain⟨p1,p2⟩:=GZ z.1 (by omega) Vo q1;exact⟨p1,by simp only;omega⟩
theorem Jk{m0:Nat}{m:List UInt8}(hm:m≠[]){I:List Tk->Sum Int (ET m0×List Tk)}(hI:Gd I)(hK:Kd I):∀(g:Nat) (ns:List (List UInt8)) (xs:List (ET m0)) (l:List Tk) (y:List (List UInt8)×List (ET m0)×List Tk),kO l->l.length<=100000->(∀x∈xs,GE m0 x)->(∀s∈ns,s.length<=70000)->oi m I g ns xs l=.inr y->(∀x∈y.2.1,GE m0 x)/\(∀s∈y.1,s.length<=70000)/\y.1.length+y.2.2.length<=ns.length+l.length/\y.2.1.length+y.2.2.length<=xs.length+l.length/\aA (y.2.1.map (aM m0))+y.2.2.length+1<=aA (xs.map (aM m0))+l.length
 |0,_,_,_,_,_,_,_,_,e=>by cases e
 |g+1,ns,xs,l,y,h,hl,hx,hs,e=>by
  unfold oi at e
  split at e
  ·cases e
  rename_i s es;have n1:=jk h es;have BV:s.1.length<=70000:=by
   obtain⟨t,r,rfl⟩:=h.cons;simp only[go,jB]at es
   split at es
   ·cases es;exact h.short
   cases es
  split at e
  ·cases e
  rename_i l2 e2;have n2:=bU n1.1 hm e2
  split at e
  ·cases e
  rename_i x ex;have n3:=hI _ _ n2.1 ex;obtain⟨g1,g2⟩:=hK _ _ n2.1 (by have:=n1.2;have:=n2.2;omega) ex;have hn:=fI (m:=[125]) n3.1 (by simp);have xh:∀z∈xs++[x.1],GE m0 z:=fun z hz=>by
   rcases List.mem_append.1 hz with h|h
   ·exact hx z h
   rw[List.mem_singleton.1 h];exact g1
  have PA:∀z∈ns++[s.1],z.length<=70000:=fun z hz=>by
   rcases List.mem_append.1 hz with h|h
   ·exact hs z h
   rw[List.mem_singleton.1 h];exact BV
  have a1:=n1.2;have a2:=n2.2;have a3:=n3.2
  split at e
  ·rename_i k
   have a4:=(hn.1 k).2;cases e;refine⟨xh,PA,?_,?_,?_⟩
   ·simp only[List.length_append,List.length_cons,List.length_nil];omega
   ·simp only[List.length_append,List.length_cons,List.length_nil];omega
   simp only[List.map_append,List.map_cons,List.map_nil,gG,aA];omega
  rename_i k;have k':(cq [125] x.2).1=false:=by simpa using k
  rw[hn.2 k']at e
  split at e
  ·cases e
  rename_i l5 e5;have n5:=bU n3.1 (by simp) e5;have a5:=n5.2;obtain⟨q1,q2,q3,q4,q5⟩:=Jk hm hI hK g _ _ _ _ n5.1 (by omega) xh PA e;refine⟨q1,q2,?_,?_,?_⟩
  ·simp only[List.length_append,List.length_cons,List.length_nil]at q3;omega
  ·simp only[List.length_append,List.length_cons,List.length_nil]at q4;omega
  simp only[List.map_append,List.map_cons,List.map_nil,gG,aA]at q5;omega
theorem JU{m:Nat}{M:List Tk->Sum Int (ET m×List Tk)}(hM:Gd M)(hK:Kd M)(op:Int):∀l x,kO l->l.length<=100000->vT M op l=.inr x->GE (m+1) x.1/\aM (m+1) x.1+x.2.length<=l.length+1:=by
 intro l x h hl e;unfold vT at e
 split at e
 ·cases e
 rename_i y ey;cases e;have hn:=fI (m:=[125]) h (by simp);obtain⟨z1,z2⟩:=zR 0 false false aR 0 aR fp fp;unfold dK at ey
 split at ey
 ·rename_i k
  have a:=(hn.1 k).2;cases ey;exact⟨⟨⟨fp,Nat.zero_le _,fun s hs=>absurd hs (by simp),z1,z2⟩,Nat.zero_le _,fun y hy=>absurd hy (by simp)⟩,by show 1+0+(cq [125] l).2.length<=_;omega⟩
 rename_i k;have k':(cq [125] l).1=false:=by simpa using k
 rw[hn.2 k']at ey;obtain⟨q1,q2,q3,q4,q5⟩:=Jk (by simp) hM hK _ _ _ _ _ h hl (fun z hz=>absurd hz (by simp)) (fun z hz=>absurd hz (by simp)) ey;simp only[List.map_nil,aA,List.length_nil]at q3 q4 q5;refine⟨⟨⟨fp,?_,fun s hs=>?_,z1,z2⟩,?_,q1⟩,?_⟩
 ·show(y.1.map aj).length<=_
  rw[List.length_map];omega
 ·obtain⟨z,hz,rfl⟩:=List.mem_map.1 (show s∈y.1.map aj from hs)
  rw[ag];have:=q2 z hz;omega
 ·show y.2.1.length<=_;omega
 show 1+aA (y.2.1.map (aM m))+y.2.2.length<=_;omega
theorem JK{m:Nat}(op:Int):∀l x,kO l->Ci (m:=m) op l=.inr x->GE (m+1) x.1/\aM (m+1) x.1+x.2.length<=l.length:=by
 intro l x h e;obtain⟨z1,z2⟩:=zR 0 false false aR 0 aR fp fp;unfold Ci at e
 split at e
 ·cases e
 rename_i s es;cases e;have n1:=(jk h es).2;have BV:s.1.length<=70000:=by
  obtain⟨t,r,rfl⟩:=h.cons;simp only[go,jB]at es
  split at es
  ·cases es;exact h.short
  cases es
 exact⟨⟨⟨by show(aj s.1).size<=_;rw[ag];omega,Nat.zero_le _,fun s hs=>absurd hs (by simp),z1,z2⟩,Nat.zero_le _,fun y hy=>absurd hy (by simp)⟩,by show 1+0+s.2.length<=_;omega⟩
theorem JQ{m:Nat}{M:List Tk->Sum Int (ET m×List Tk)}(hM:Gd M)(hK:Kd M){k:List UInt8}(hk:k≠[]):∀l x,kO l->l.length<=100000->vB M k l=.inr x->GE m x.1/\aM m x.1+x.2.length+1<=l.length:=by
 intro l x h hl e;unfold vB at e
 split at e
 ·cases e
 rename_i y ey;have n1:=hM _ _ h ey;obtain⟨g1,g2⟩:=hK _ _ h hl ey
 split at e
 ·cases e
 rename_i l' e';cases e;have:=(bU n1.1 hk e').2;exact⟨g1,by simp only;omega⟩
theorem GG{m:Nat}{M:List Tk->Sum Int (ET m×List Tk)}(hM:Gd M)(hK:Kd M):Kd (qB M):=by
 intro l x h hl e;obtain⟨t,r,rfl⟩:=h.cons;have hw:¬t.w=0:=by intro h0;simp[qB,h0,bj,Dq]at e
 have hr:=h.tail hw;have qJ:r.length<=100000:=by simp at hl;omega
 simp only[qB]at e;simp only[List.length_cons]
 split at e
 ·split at e
  ·cases e
  rename_i y ey;cases e;obtain⟨g1,g2⟩:=JQ hM hK (by simp) _ _ hr qJ ey;exact⟨g1.up,by simp only[tu];omega⟩
 split at e
 ·split at e
  ·cases e
  rename_i y ey;cases e;obtain⟨g1,g2⟩:=JQ hM hK (by simp) _ _ hr qJ ey;exact⟨⟨Fg 4,by simp,fun z hz=>by rw[List.mem_singleton.1 hz];exact g1⟩,by show 1+(aM m y.1+0)+y.2.length<=_;omega⟩
 split at e
 ·obtain⟨g1,g2⟩:=JK 2 _ _ hr e
  exact⟨g1,by omega⟩
 split at e
 ·obtain⟨g1,g2⟩:=JK 5 _ _ hr e
  exact⟨g1,by omega⟩
 split at e
 ·obtain⟨g1,g2⟩:=JU hM hK 3 _ _ hr qJ e
  exact⟨g1,by omega⟩
 split at e
 ·split at e
  ·cases e
  rename_i l1 e1;have n1:=bU hr (by simp) e1;have:=n1.2;obtain⟨g1,g2⟩:=JU hM hK 6 _ _ n1.1 (by omega) e;exact⟨g1,by omega⟩
 split at e
 ·split at e
  ·cases e
  rename_i v ev;cases e;obtain⟨z1,z2⟩:=TR hr ev;have:=(JN _ _ hr ev).2;exact⟨⟨⟨fp,Nat.zero_le _,fun s hs=>absurd hs (by simp),z1,z2⟩,Nat.zero_le _,fun y hy=>absurd hy (by simp)⟩,by show 1+0+v.2.length<=_;omega⟩
 split at e
 ·rename_i op _
  cases e;exact⟨⟨Fg op,Nat.zero_le _,fun y hy=>absurd hy (by simp)⟩,by show 1+0+r.length<=_;omega⟩
 cases e
theorem CG:∀f,Kd (BO f)
 |0=>fun _ _ _ _ e=>by cases e
 |f+1=>GG (sq (kc f)) (DG (kc f) (CG f))
theorem wP:∀(n:Nat) (x:VT n) (ns ls:Value) (w:World) (m d:Nat),RD n w x ns ls->Sz n x->m<=1125899906842624->d<=301 ->
  Calls prog 68 #[.agg (aP (aI n x) ns ls),.int .i64 m,.int .i64 32768,.int .i64 d] w fun e w'=>∃p:Nat,e=.returned (.int .i64 p)/\Hid ((p<=32768->p=m+blk n x)/\p<=4503599627370496)/\Below w.heap.size w w':=by
 intro n
 induction n with
 |zero=>intro x;exact Empty.elim x
 |succ n ih=>
  intro x ns ls w m d hr hz hm hd;obtain⟨h,l⟩:=x;obtain⟨al,cl,rfl,bB,br⟩:=hr.len;obtain⟨an,cn,rfl,cm,df⟩:=hr.1.len;obtain⟨z1,z2,z3,z4,z5⟩:=hz;have hr:=aa hr;have ih':=aa ih;have z4:=aa z4;have z5:=aa z5;clear ih;have pd:(m:Int)<=1125899906842624:=by omega
  have e1:(h.text.size:Int)<=281474976710656:=by simp only at z1;omega
  have e2:(h.dig.size:Int)<=281474976710656:=by simp only at z2;omega
  have e3:(h.names.length:Int)<=281474976710656:=by simp only at z3;omega
  clear z1 z2 z3;simp only at cm df bB br;show Calls _ _ #[.agg #[.int .i64 h.kind,.bool h.flag,.bool h.neg,.string h.dig,.int .i64 h.exp,.int .u64 h.bits,.string h.text,.slice an h.names.length cn,.slice al l.length cl],_,_,_] _ _;by_cases WE:(300:Int)<(d:Int)
  ·go_enter func68,ntmps68
   go_wp2_with fail
   go_ret;exact⟨32769,by first|rfl|simp,⟨fun h=>by omega,by omega⟩,by first|exact ab af|exact af⟩
  have dM:=aa (eg w h (.slice an h.names.length cn) (.slice al l.length cl));obtain⟨q,hq⟩:∃q:Nat,q=m+1+h.text.size+h.dig.size+h.names.length:=⟨_,rfl⟩
  have Sk:(m:Int)+1+h.text.size+h.dig.size+h.names.length=(q:Int):=by omega
  have QY:q<=4503599627370496:=by omega
  have hD:m+blk (n+1) (h,l)=q+aA (h.names.map ByteArray.size)+aA (l.map (blk n)):=by simp only[blk];omega
  have zm:=aa hq;have jP:=aa hD;have So:=aa QY;clear hq hD QY;have ml:maxLen=9223372036854775807:=rfl;go_enter func68,ntmps68;go_wp2_with fail
  go_loopw [1,9] (fun u i w'=>∃(k p:Nat),u=.int .i64 p/\i=.int .i64 k/\k<=h.names.length/\Hid (p=q+aA ((h.names.map ByteArray.size).take k)/\p<=4503599627370496/\Below w.heap.size w w'/\Bx w' w.heap.size h (.slice an h.names.length cn) (.slice al l.length cl))) (fun _ i _=>h.names.length-(intOf i).toNat)
  case atStart=>exact⟨0,q,rfl,rfl,Nat.zero_le _,rfl,by have:=So.out;omega,ab af,dM.out⟩
  case round=>
   obtain⟨k,p,rfl,rfl,hk,H⟩:=hrel;obtain⟨c0,c1,c2,c3,c4,c5,c6,c7,c8⟩:=H.out.2.2.2.cells;clear c0 c1 c2 c3 c4 c5 c6;have sN:(p:Int)<=4503599627370496:=by have:=H.out.2.1;omega
   by_cases aE:k<h.names.length
   ·have bF:(k:Int)<(h.names.length:Int):=by omega
    by_cases hp:(p:Int)<=32768
    ·obtain⟨b,o,c,he,cQ,gq,iE,hcell⟩:=hr.out.1.at k aE
     have cy:=Value.slice.inj he;obtain⟨rfl,_,rfl⟩:=cy;clear he;have hcell:=(H.out.2.2.1.cell (p:=⟨b,o+k,none⟩) cQ).trans hcell;have hz:=z4.out h.names[k] (List.getElem_mem _);have eL:=cZ (h.names.map ByteArray.size) k (by simpa using aE);rw[List.getElem_map]at eL;have ea:=aa eL;obtain⟨s,hs⟩:∃s,h.names[k]=s:=⟨_,rfl⟩
     simp only at hcell;rw[hs]at hcell hz;have RR:(s.size:Int)<=281474976710656:=by omega
     have eK:=aa hs;have Lm:=aa hz;clear eL hs hz;go_wp2_with fail
     refine⟨⟨k+1,p+s.size,by go_num,by go_num,by omega,?_⟩,by simp[intOf];omega⟩;refine⟨?_,by omega,H.out.2.2⟩;rw[ea.out,eK.out,H.out.1];omega
    go_wp2_with fail
    go_loopw [1,10] (fun u i w'=>∃(k p:Nat),u=.int .i64 p/\i=.int .i64 k/\k<=l.length/\Hid ((p<=32768->p=q+aA (h.names.map ByteArray.size)+aA ((l.map (blk n)).take k))/\p<=4503599627370496/\Below w.heap.size w w'/\Bx w' w.heap.size h (.slice an h.names.length cn) (.slice al l.length cl))) (fun _ i _=>l.length-(intOf i).toNat)
    case atStart=>exact⟨0,p,rfl,rfl,Nat.zero_le _,fun h=>by omega,H.out.2⟩
    case round=>
     clear H c7 c8 sN;obtain⟨k2,p2,rfl,rfl,nU,H⟩:=hrel;obtain⟨c0,c1,c2,c3,c4,c5,c6,c7,c8⟩:=H.out.2.2.2.cells;clear c0 c1 c2 c3 c4 c5 c6;have sN:(p2:Int)<=4503599627370496:=by have:=H.out.2.1;omega
     by_cases jK:k2<l.length
     ·have qK:(k2:Int)<(l.length:Int):=by omega
      have cR:(k2:Int)<9223372036854775807:=by omega
      by_cases qI:(p2:Int)<=32768
      ·obtain⟨b,o,c,he,cQ,gq,iE,ns',ls',bT,bf⟩:=hr.out.at k2 jK
       have cy:=Value.slice.inj he;obtain⟨rfl,_,rfl⟩:=cy;clear he;obtain⟨q0,q1,q2,q3,q4,q5,q6,q7,q8⟩:=fm (am bT H.out.2.2.1 cQ);have cA:=aa (bf.below H.out.2.2.1);obtain⟨a1,m1,d1,a2,m2,d2,rfl,rfl⟩:=bf.shape;clear bT bf;have eL:=cZ (l.map (blk n)) k2 (by simpa using jK);rw[List.getElem_map]at eL;have hcall:=aa (ih'.out l[k2] (.slice a1 m1 d1) (.slice a2 m2 d2) wr p2 (d+1) cA.out (z5.out _ (List.getElem_mem _)) (by omega) (by omega));have ed:((d+1:Nat):Int)=(d:Int)+1:=by omega
       rw[ed]at hcall;have ea:=aa eL;have xr:=aa qI;clear eL ed;go_wp2_with(go_at_call 68;refine hcall.out.mono ?_;rintro e w1 ⟨p3,rfl,H3,ai⟩)
       refine⟨⟨k2+1,p3,rfl,by go_num,by omega,?_⟩,by simp[intOf];omega⟩;refine⟨fun h3=>?_,H3.out.2,ac H.out.2.2.1 ai,H.out.2.2.2.below ai⟩;have e3:=H3.out.1 h3;have e2:=H.out.1 (by have:=xr.out;omega);have e4:=ea.out;omega
      go_wp2_with fail
      go_ret;exact⟨p2,rfl,⟨fun h3=>by omega,H.out.2.1⟩,H.out.2.2.1⟩
     have qK:¬((k2:Int)<(l.length:Int)):=by omega
     have zB:m+blk (n+1) (h,l)=q+aA (h.names.map ByteArray.size)+aA ((l.map (blk n)).take k2):=by rw[jP.out,List.take_of_length_le (by simp;omega)]
     have Mw:=aa zB;clear zB;go_wp2_with fail
     go_ret;exact⟨p2,rfl,⟨fun h3=>by rw[Mw.out];exact H.out.1 h3,H.out.2.1⟩,H.out.2.2.1⟩
   have bF:¬((k:Int)<(h.names.length:Int)):=by omega
   go_wp2_with fail
   go_loopw [1,10] (fun u i w'=>∃(k p:Nat),u=.int .i64 p/\i=.int .i64 k/\k<=l.length/\Hid ((p<=32768->p=q+aA (h.names.map ByteArray.size)+aA ((l.map (blk n)).take k))/\p<=4503599627370496/\Below w.heap.size w w'/\Bx w' w.heap.size h (.slice an h.names.length cn) (.slice al l.length cl))) (fun _ i _=>l.length-(intOf i).toNat)
   case atStart=>exact⟨0,p,rfl,rfl,Nat.zero_le _,fun _=>by rw[H.out.1,List.take_of_length_le (by simp;omega)];simp[aA],H.out.2⟩
   case round=>
    clear H c7 c8 sN;obtain⟨k2,p2,rfl,rfl,nU,H⟩:=hrel;obtain⟨c0,c1,c2,c3,c4,c5,c6,c7,c8⟩:=H.out.2.2.2.cells;clear c0 c1 c2 c3 c4 c5 c6;have sN:(p2:Int)<=4503599627370496:=by have:=H.out.2.1;omega
    by_cases jK:k2<l.length
    ·have qK:(k2:Int)<(l.length:Int):=by omega
     have cR:(k2:Int)<9223372036854775807:=by omega
     by_cases qI:(p2:Int)<=32768
     ·obtain⟨b,o,c,he,cQ,gq,iE,ns',ls',bT,bf⟩:=hr.out.at k2 jK
      have cy:=Value.slice.inj he;obtain⟨rfl,_,rfl⟩:=cy;clear he;obtain⟨q0,q1,q2,q3,q4,q5,q6,q7,q8⟩:=fm (am bT H.out.2.2.1 cQ);have cA:=aa (bf.below H.out.2.2.1);obtain⟨a1,m1,d1,a2,m2,d2,rfl,rfl⟩:=bf.shape;clear bT bf;have eL:=cZ (l.map (blk n)) k2 (by simpa using jK);rw[List.getElem_map]at eL;have hcall:=aa (ih'.out l[k2] (.slice a1 m1 d1) (.slice a2 m2 d2) wr p2 (d+1) cA.out (z5.out _ (List.getElem_mem _)) (by omega) (by omega));have ed:((d+1:Nat):Int)=(d:Int)+1:=by omega
      rw[ed]at hcall;have ea:=aa eL;have xr:=aa qI;clear eL ed;go_wp2_with(go_at_call 68;refine hcall.out.mono ?_;rintro e w1 ⟨p3,rfl,H3,ai⟩)
      refine⟨⟨k2+1,p3,rfl,by go_num,by omega,?_⟩,by simp[intOf];omega⟩;refine⟨fun h3=>?_,H3.out.2,ac H.out.2.2.1 ai,H.out.2.2.2.below ai⟩;have e3:=H3.out.1 h3;have e2:=H.out.1 (by have:=xr.out;omega);have e4:=ea.out;omega
     go_wp2_with fail
     go_ret;exact⟨p2,rfl,⟨fun h3=>by omega,H.out.2.1⟩,H.out.2.2.1⟩
    have qK:¬((k2:Int)<(l.length:Int)):=by omega
    have zB:m+blk (n+1) (h,l)=q+aA (h.names.map ByteArray.size)+aA ((l.map (blk n)).take k2):=by rw[jP.out,List.take_of_length_le (by simp;omega)]
    have Mw:=aa zB;clear zB;go_wp2_with fail
    go_ret;exact⟨p2,rfl,⟨fun h3=>by rw[Mw.out];exact H.out.1 h3,H.out.2.1⟩,H.out.2.2.1⟩
def dm:(n:Nat)->ET n->Nat
 |0,_=>0
 |n+1,x=>1+x.1.name.size+x.1.names.length+blk x.1.vn x.1.val+aA (x.1.names.map ByteArray.size)+aA (x.2.map (dm n))
def zN:(n:Nat)->ET n->Prop
 |0,_=>True
 |n+1,x=>x.1.name.size<=281474976710656/\x.1.names.length<=281474976710656/\(∀s∈x.1.names,s.size<=281474976710656)/\Sz x.1.vn x.1.val/\∀y∈x.2,zN n y
theorem fL:∀(n:Nat) (x:ET n),aM n x<=dm n x
 |0,x=>Empty.elim x
 |n+1,x=>by
  simp only[aM,dm];have:aA (x.2.map (aM n))<=aA (x.2.map (dm n)):=by
   generalize x.2=l
   induction l with
   |nil=>exact Nat.le_refl _
   |cons a l ih=>simp only[List.map_cons,aA];have:=fL n a;omega
  omega
theorem iO{l:List Nat}{a:Nat}(h:a∈l):a<=aA l:=by
 induction l with
 |nil=>simp at h
 |cons b l ih=>
  simp only[aA];rcases List.mem_cons.1 h with rfl|h
  ·omega
  have:=ih h;omega
theorem tv:∀(n:Nat) (x:ET n),zN n x->dm n x<=32768->GE n x
 |0,x,_,_=>Empty.elim x
 |n+1,x,h,hb=>by obtain⟨h1,h2,h3,h4,h5⟩:=h;have hs:=fL (n+1) x;have hl:x.2.length<=aA (x.2.map (aM n)):=iP (aM n) (kM n) x.2;have hz:=yy x.1.vn x.1.val;have eK:1+aA (x.2.map (aM n))<=dm (n+1) x:=hs;simp only[dm]at hb eK;refine⟨⟨h1,by omega,h3,h4,by omega⟩,by omega,fun y hy=>tv n y (h5 y hy) ?_⟩;have:=iO (List.mem_map_of_mem (f:=dm n) hy);omega
theorem TY(n:Int)(h1:-9223372036854775808<=n)(h2:n<=9223372036854775807):wrap64 n=n:=by unfold wrap64;omega
theorem ft(w:World)(h:Eh)(q:Sl):Ex (w.alloc (.cells (ecl h q) 33)) w.heap.size h q:=⟨Array.getElem?_push_size⟩
theorem Ai:∀(n:Nat) (x:ET n) (q:Sl) (w:World) (m d:Nat),RE n w x q->zN n x->m<=32768->d<=301 ->
  Calls prog 31 #[.agg (ecl (ehd n x) q),.int .i64 m,.int .i64 32768,.int .i64 d] w fun e w'=>∃p:Nat,e=.returned (.int .i64 p)/\Hid ((p<=32768->p=m+dm n x)/\p<=4503599627370496)/\Below w.heap.size w w':=by
 intro n
 induction n with
 |zero=>intro x;exact Empty.elim x
 |succ n ih=>
  intro x q w m d hr hz hm hd;obtain⟨h,l⟩:=x;obtain⟨al,cl,cd,bB,br⟩:=hr.tl.len;obtain⟨an,cn,aQ,cm,df⟩:=hr.1.len;obtain⟨x1,y1,z1,x2,y2,z2,x3,y3,z3,x4,y4,z4,aK⟩:=hr.shape;subst aK;obtain⟨rfl,rfl,rfl⟩:=Value.slice.inj cd;obtain⟨rfl,rfl,rfl⟩:=Value.slice.inj aQ;clear cd aQ;obtain⟨w1',w2',w3',w4',z5⟩:=hz;have hP:=aa (fun W (hb:Below w.heap.size w W) (m':Nat) (h':m'<=1125899906842624)=>wP h.vn h.val (.slice x3 y3 z3) (.slice x4 y4 z4) W m' 0 (hr.2.1.below hb) w4' h' (by omega));have hr:=aa hr;have ih':=aa ih;have z4':=aa w3';have z5:=aa z5;clear ih w3' w4';have pd:(m:Int)<=32768:=by omega
  have e1:(h.name.size:Int)<=281474976710656:=by simp only at w1';omega
  have e3:(h.names.length:Int)<=281474976710656:=by simp only at w2';omega
  clear w1' w2';simp only at cm df bB br;have dM:=aa (ft w h ⟨.slice x1 h.names.length z1,.slice x2 l.length z2,.slice x3 y3 z3,.slice x4 y4 z4⟩);obtain⟨q0,kX⟩:∃q0:Nat,q0=m+1+h.name.size+h.names.length:=⟨_,rfl⟩
  have hq0i:(m:Int)+1+h.name.size+h.names.length=(q0:Int):=by omega
  have Sp:q0<=1125899906842624:=by omega
  have hq0w:wrap64 (wrap64 ((m:Int)+1+h.name.size)+h.names.length)=(q0:Int):=by have i1:wrap64 ((m:Int)+1+h.name.size)=(m:Int)+1+h.name.size:=TY _ (by omega) (by omega);rw[i1,TY _ (by omega) (by omega)];exact hq0i
  have JI:=aa (fun W (hb:Below w.heap.size w W)=>hP.out W hb q0 Sp);obtain⟨q,hq⟩:∃q:Nat,q=q0+blk h.vn h.val:=⟨_,rfl⟩
  have hD:m+dm (n+1) (h,l)=q+aA (h.names.map ByteArray.size)+aA (l.map (dm n)):=by simp only[dm];omega
  have zm:=aa hq;have jP:=aa hD;have VM:=aa kX;clear hq hD kX hP;have ml:maxLen=9223372036854775807:=rfl;show Calls _ _ #[.agg (ecl h ⟨.slice x1 h.names.length z1,.slice x2 l.length z2,.slice x3 y3 z3,.slice x4 y4 z4⟩),.int .i64 m,.int .i64 32768,.int .i64 d] _ _;unfold ecl at dM ⊢;unfold aP at JI;simp only at dM JI ⊢;obtain⟨vv,kB⟩:∃vv,aI h.vn h.val=vv:=⟨_,rfl⟩
  rw[kB]at JI dM ⊢;clear kB;by_cases WE:(300:Int)<(d:Int)
  ·go_enter func31,ntmps31
   go_wp2_with fail
   go_ret;exact⟨32769,by first|rfl|simp,⟨fun h=>by omega,by omega⟩,by first|exact ab af|exact af⟩
  go_enter func31,ntmps31;go_wp2_with fail
  refine(JI.out _ (by first|exact ab af|exact below_dr (ab af))).mono ?_;rintro e w1 ⟨P,rfl,HP,ai⟩;have X1:=aa (dM.out.below ai);have aq:=aa (ac (ab af) ai);clear ai;go_wp2_with fail
  go_loopw [1,9] (fun u i w'=>∃(k p:Nat),u=.int .i64 p/\i=.int .i64 k/\k<=h.names.length/\Hid ((p<=32768->p=q+aA ((h.names.map ByteArray.size).take k))/\p<=4503599627370496/\Below w.heap.size w w'/\Ex w' w.heap.size h ⟨.slice x1 h.names.length z1,.slice x2 l.length z2,.slice x3 y3 z3,.slice x4 y4 z4⟩)) (fun _ i _=>h.names.length-(intOf i).toNat)
  case atStart=>exact⟨0,P,rfl,rfl,Nat.zero_le _,⟨fun h=>by have:=HP.out.1 h;have:=zm.out;simp[aA];omega,HP.out.2,aq.out,X1.out⟩⟩
  case round=>
   obtain⟨k,p,rfl,rfl,hk,H⟩:=hrel;obtain⟨c0,c1,c2,c3,c4⟩:=H.out.2.2.2.cells;clear c0 c1 c4;have sN:(p:Int)<=4503599627370496:=by have:=H.out.2.1;omega
   by_cases aE:k<h.names.length
   ·have bF:(k:Int)<(h.names.length:Int):=by omega
    by_cases hp:(p:Int)<=32768
    ·obtain⟨b,o,c,he,cQ,gq,iE,hcell⟩:=hr.out.1.at k aE
     have cy:=Value.slice.inj he;obtain⟨rfl,_,rfl⟩:=cy;clear he;have hcell:=(H.out.2.2.1.cell (p:=⟨b,o+k,none⟩) cQ).trans hcell;have hz:=z4'.out h.names[k] (List.getElem_mem _);have eL:=cZ (h.names.map ByteArray.size) k (by simpa using aE);rw[List.getElem_map]at eL;have ea:=aa eL;obtain⟨s,hs⟩:∃s,h.names[k]=s:=⟨_,rfl⟩
     simp only at hcell;rw[hs]at hcell hz;have RR:(s.size:Int)<=281474976710656:=by omega
     have eK:=aa hs;have Lm:=aa hz;clear eL hs hz;go_wp2_with fail
     refine⟨⟨k+1,p+s.size,by go_num,by go_num,by omega,?_⟩,by simp[intOf];omega⟩;refine⟨fun h3=>?_,by omega,H.out.2.2⟩;rw[ea.out,eK.out];have:=H.out.1 (by omega);omega
    go_wp2_with fail
    go_loopw [1,10] (fun u i w'=>∃(k p:Nat),u=.int .i64 p/\i=.int .i64 k/\k<=l.length/\Hid ((p<=32768->p=q+aA (h.names.map ByteArray.size)+aA ((l.map (dm n)).take k))/\p<=4503599627370496/\Below w.heap.size w w'/\Ex w' w.heap.size h ⟨.slice x1 h.names.length z1,.slice x2 l.length z2,.slice x3 y3 z3,.slice x4 y4 z4⟩)) (fun _ i _=>l.length-(intOf i).toNat)
    case atStart=>exact⟨0,p,rfl,rfl,Nat.zero_le _,fun h=>by omega,H.out.2⟩
    case round=>
     clear H c2 c3 sN;obtain⟨k2,p2,rfl,rfl,nU,H⟩:=hrel;obtain⟨c0,c1,c2,c3,c4⟩:=H.out.2.2.2.cells;clear c0 c1 c4;have sN:(p2:Int)<=4503599627370496:=by have:=H.out.2.1;omega
     by_cases jK:k2<l.length
     ·have qK:(k2:Int)<(l.length:Int):=by omega
      have cR:(k2:Int)<9223372036854775807:=by omega
      by_cases qI:(p2:Int)<=32768
      ·obtain⟨b,o,c,he,cQ,gq,iE,q',bT,bf⟩:=hr.out.tl.at k2 jK
       have cy:=Value.slice.inj he;obtain⟨rfl,_,rfl⟩:=cy;clear he;have r0:=bJ (am bT H.out.2.2.1 cQ);have cA:=aa (bf.below H.out.2.2.1);obtain⟨a1,m1,d1,a2,m2,d2,a3,m3,d3,a4,m4,d4,rfl⟩:=bf.shape;clear bT bf;have eL:=cZ (l.map (dm n)) k2 (by simpa using jK);rw[List.getElem_map]at eL;have hcall:=aa (ih'.out l[k2] ⟨.slice a1 m1 d1,.slice a2 m2 d2,.slice a3 m3 d3,.slice a4 m4 d4⟩ wr p2 (d+1) cA.out (z5.out _ (List.getElem_mem _)) (by omega) (by omega));have ed:((d+1:Nat):Int)=(d:Int)+1:=by omega
       rw[ed]at hcall;obtain⟨y,hy⟩:∃y,ehd n l[k2]=y:=⟨_,rfl⟩
       simp only at r0;rw[hy]at hcall r0;unfold ecl at hcall;simp only at hcall;have ea:=aa eL;have xr:=aa qI;clear eL ed hy;go_wp2_with(go_at_call 31;refine hcall.out.mono ?_;rintro e w1 ⟨p3,rfl,H3,ai⟩)
       refine⟨⟨k2+1,p3,rfl,by go_num,by omega,?_⟩,by simp[intOf];omega⟩;refine⟨fun h3=>?_,H3.out.2,ac H.out.2.2.1 ai,H.out.2.2.2.below ai⟩;have e3:=H3.out.1 h3;have e2:=H.out.1 (by have:=xr.out;omega);have e4:=ea.out;omega
      go_wp2_with fail
      go_ret;exact⟨p2,rfl,⟨fun h3=>by omega,H.out.2.1⟩,H.out.2.2.1⟩
     have qK:¬((k2:Int)<(l.length:Int)):=by omega
     have zB:m+dm (n+1) (h,l)=q+aA (h.names.map ByteArray.size)+aA ((l.map (dm n)).take k2):=by rw[jP.out,List.take_of_length_le (by simp;omega)]
     have Mw:=aa zB;clear zB;go_wp2_with fail
     go_ret;exact⟨p2,rfl,⟨fun h3=>by rw[Mw.out];exact H.out.1 h3,H.out.2.1⟩,H.out.2.2.1⟩
   have bF:¬((k:Int)<(h.names.length:Int)):=by omega
   go_wp2_with fail
   go_loopw [1,10] (fun u i w'=>∃(k p:Nat),u=.int .i64 p/\i=.int .i64 k/\k<=l.length/\Hid ((p<=32768->p=q+aA (h.names.map ByteArray.size)+aA ((l.map (dm n)).take k))/\p<=4503599627370496/\Below w.heap.size w w'/\Ex w' w.heap.size h ⟨.slice x1 h.names.length z1,.slice x2 l.length z2,.slice x3 y3 z3,.slice x4 y4 z4⟩)) (fun _ i _=>l.length-(intOf i).toNat)
   case atStart=>exact⟨0,p,rfl,rfl,Nat.zero_le _,fun h3=>by rw[H.out.1 h3,List.take_of_length_le (by simp;omega)];simp[aA],H.out.2⟩
   case round=>
    clear H c2 c3 sN;obtain⟨k2,p2,rfl,rfl,nU,H⟩:=hrel;obtain⟨c0,c1,c2,c3,c4⟩:=H.out.2.2.2.cells;clear c0 c1 c4;have sN:(p2:Int)<=4503599627370496:=by have:=H.out.2.1;omega
    by_cases jK:k2<l.length
    ·have qK:(k2:Int)<(l.length:Int):=by omega
     have cR:(k2:Int)<9223372036854775807:=by omega
     by_cases qI:(p2:Int)<=32768
     ·obtain⟨b,o,c,he,cQ,gq,iE,q',bT,bf⟩:=hr.out.tl.at k2 jK
      have cy:=Value.slice.inj he;obtain⟨rfl,_,rfl⟩:=cy;clear he;have r0:=bJ (am bT H.out.2.2.1 cQ);have cA:=aa (bf.below H.out.2.2.1);obtain⟨a1,m1,d1,a2,m2,d2,a3,m3,d3,a4,m4,d4,rfl⟩:=bf.shape;clear bT bf;have eL:=cZ (l.map (dm n)) k2 (by simpa using jK);rw[List.getElem_map]at eL;have hcall:=aa (ih'.out l[k2] ⟨.slice a1 m1 d1,.slice a2 m2 d2,.slice a3 m3 d3,.slice a4 m4 d4⟩ wr p2 (d+1) cA.out (z5.out _ (List.getElem_mem _)) (by omega) (by omega));have ed:((d+1:Nat):Int)=(d:Int)+1:=by omega
      rw[ed]at hcall;obtain⟨y,hy⟩:∃y,ehd n l[k2]=y:=⟨_,rfl⟩
      simp only at r0;rw[hy]at hcall r0;unfold ecl at hcall;simp only at hcall;have ea:=aa eL;have xr:=aa qI;clear eL ed hy;go_wp2_with(go_at_call 31;refine hcall.out.mono ?_;rintro e w1 ⟨p3,rfl,H3,ai⟩)
      refine⟨⟨k2+1,p3,rfl,by go_num,by omega,?_⟩,by simp[intOf];omega⟩;refine⟨fun h3=>?_,H3.out.2,ac H.out.2.2.1 ai,H.out.2.2.2.below ai⟩;have e3:=H3.out.1 h3;have e2:=H.out.1 (by have:=xr.out;omega);have e4:=ea.out;omega
     go_wp2_with fail
     go_ret;exact⟨p2,rfl,⟨fun h3=>by omega,H.out.2.1⟩,H.out.2.2.1⟩
    have qK:¬((k2:Int)<(l.length:Int)):=by omega
    have zB:m+dm (n+1) (h,l)=q+aA (h.names.map ByteArray.size)+aA ((l.map (dm n)).take k2):=by rw[jP.out,List.take_of_length_le (by simp;omega)]
    have Mw:=aa zB;clear zB;go_wp2_with fail
    go_ret;exact⟨p2,rfl,⟨fun h3=>by rw[Mw.out];exact H.out.1 h3,H.out.2.1⟩,H.out.2.2.1⟩
def FI:(n:Nat)->ET n->Bool
 |0,_=>false
 |n+1,x=>decide (1000<x.1.names.length)||BU x.1.vn x.1.val||x.2.any (FI n)
theorem By:∀(n:Nat) (x:ET n) (q:Sl) (w:World),RE n w x q ->
  Calls prog 32 #[.agg (ecl (ehd n x) q)] w fun e w'=>e=.returned (.bool (FI n x))/\Below w.heap.size w w':=by
 intro n
 induction n with
 |zero=>intro x;exact Empty.elim x
 |succ n ih=>
  intro x q w hr;obtain⟨h,l⟩:=x;obtain⟨al,cl,cd,bB,br⟩:=hr.tl.len;obtain⟨an,cn,aQ,cm,df⟩:=hr.1.len;obtain⟨x1,y1,z1,x2,y2,z2,x3,y3,z3,x4,y4,z4,aK⟩:=hr.shape;subst aK;obtain⟨rfl,rfl,rfl⟩:=Value.slice.inj cd;obtain⟨rfl,rfl,rfl⟩:=Value.slice.inj aQ;clear cd aQ;have hM:=aa (fun W (hb:Below w.heap.size w W)=>DS h.vn h.val (.slice x3 y3 z3) (.slice x4 y4 z4) W (hr.2.1.below hb));have hr:=aa hr;have ih':=aa ih;clear ih;simp only at cm df bB br;have ml:maxLen=9223372036854775807:=rfl;have dM:=aa (ft w h ⟨.slice x1 h.names.length z1,.slice x2 l.length z2,.slice x3 y3 z3,.slice x4 y4 z4⟩);have db:=aa (ab (o:=.cells (ecl h ⟨.slice x1 h.names.length z1,.slice x2 l.length z2,.slice x3 y3 z3,.slice x4 y4 z4⟩) 33) (Below.refl w.heap.size w));have NA:=aa (hM.out _ db.out);have c0:=dM.out.cells;clear hM;show Calls _ _ #[.agg (ecl h ⟨.slice x1 h.names.length z1,.slice x2 l.length z2,.slice x3 y3 z3,.slice x4 y4 z4⟩)] _ _;unfold aP at NA;unfold ecl at db ⊢;simp only at NA db c0 ⊢;by_cases h2:(1000:Int)<(h.names.length:Int)
  ·have hD:FI (n+1) (h,l)=true:=by simp only[FI];rw[decide_eq_true (by omega)];rfl
   have jP:=aa hD;clear hD;go_enter func32,ntmps32;go_wp2_with fail
   go_ret;exact⟨by rw[jP.out];rfl,db.out⟩
  have hD:FI (n+1) (h,l)=(BU h.vn h.val||l.any (FI n)):=by simp only[FI];rw[decide_eq_false (by omega)];rfl
  have jP:=aa hD;clear hD;cases hm:BU h.vn h.val
  ·rw[hm]at NA jP
   go_enter func32,ntmps32;go_wp2_with(go_at_call 69;refine NA.out.mono ?_;rintro e w1 ⟨rfl,ai⟩)
   go_loopw [3] (fun i w'=>∃k:Nat,i=.int .i64 k/\k<=l.length/\Hid ((l.take k).any (FI n)=false/\Below w.heap.size w w'/\Ex w' w.heap.size h ⟨.slice x1 h.names.length z1,.slice x2 l.length z2,.slice x3 y3 z3,.slice x4 y4 z4⟩)) (fun i _=>l.length-(intOf i).toNat)
   case atStart=>exact⟨0,rfl,Nat.zero_le _,rfl,ac db.out ai,dM.out.below ai⟩
   case round=>
    obtain⟨k,rfl,hk,H⟩:=hrel;obtain⟨_,_,c2,c3,_⟩:=H.out.2.2.cells;by_cases aE:k<l.length
    ·have bF:(k:Int)<(l.length:Int):=by omega
     have cR:(k:Int)<9223372036854775807:=by omega
     obtain⟨b,o,c,he,cQ,gq,iE,q',bT,bf⟩:=hr.out.tl.at k aE;have cy:=Value.slice.inj he;obtain⟨rfl,_,rfl⟩:=cy;clear he;have r0:=bJ (am bT H.out.2.1 cQ);have cA:=aa (bf.below H.out.2.1);obtain⟨a1,m1,d1,a2,m2,d2,a3,m3,d3,a4,m4,d4,rfl⟩:=bf.shape;clear bT bf;have hcall:=aa (ih'.out l[k] ⟨.slice a1 m1 d1,.slice a2 m2 d2,.slice a3 m3 d3,.slice a4 m4 d4⟩ wr cA.out);have kF:Hid (l[k]=l[k]):=rfl;obtain⟨bb,gd⟩:∃b,FI n l[k]=b:=⟨_,rfl⟩
     rw[gd]at hcall;have Ip:=aa gd;obtain⟨y,hy⟩:∃y,ehd n l[k]=y:=⟨_,rfl⟩
     simp only at r0;rw[hy]at hcall r0;unfold ecl at hcall;simp only at hcall;clear hy gd;cases bb
     ·go_wp2_with(go_at_call 32;refine hcall.out.mono ?_;rintro e w1 ⟨rfl,ai⟩)
      refine⟨⟨k+1,by go_num,by omega,?_,ac H.out.2.1 ai,H.out.2.2.below ai⟩,by simp[intOf];omega⟩;rw[List.take_succ_eq_append_getElem aE,List.any_append,H.out.1];have:=Ip.out;simp only[List.any_cons,List.any_nil,Bool.or_false,Bool.false_or];exact this
     go_wp2_with(go_at_call 32;refine hcall.out.mono ?_;rintro e w1 ⟨rfl,ai⟩)
     go_ret;exact⟨by rw[jP.out,FN aE Ip.out];rfl,ac H.out.2.1 ai⟩
    have bF:¬((k:Int)<(l.length:Int)):=by omega
    have hE:=H.out.1;rw[List.take_of_length_le (by omega)]at hE;have iJ:=aa hE;clear hE;go_wp2_with fail
    go_ret;exact⟨by rw[jP.out,iJ.out];rfl,H.out.2.1⟩
  rw[hm]at NA jP;go_enter func32,ntmps32;go_wp2_with(go_at_call 69;refine NA.out.mono ?_;rintro e w1 ⟨rfl,ai⟩)
  go_ret;exact⟨by rw[jP.out];rfl,ac db.out ai⟩
theorem FJ(n:Nat)(x:ET n)(q:Sl)(w:World)(hr:RE n w x q)(hz:zN n x):Calls prog 13 #[.agg (ecl (ehd n x) q)] w fun e w'=>∃b,e=.returned (.bool b)/\Hid (b=false->dm n x<=32768/\FI n x=false)/\Below w.heap.size w w':=by
 obtain⟨x1,y1,z1,x2,y2,z2,x3,y3,z3,x4,y4,z4,aK⟩:=hr.shape;subst aK;obtain⟨h,hh⟩:∃h,ehd n x=h:=⟨_,rfl⟩
 have hP:=aa (fun o=>Ai n x ⟨.slice x1 y1 z1,.slice x2 y2 z2,.slice x3 y3 z3,.slice x4 y4 z4⟩ (w.alloc o) 0 0 (hr.below (ab af)) hz (by omega) (by omega));have hM:=aa (fun W (hb:Below w.heap.size w W)=>By n x ⟨.slice x1 y1 z1,.slice x2 y2 z2,.slice x3 y3 z3,.slice x4 y4 z4⟩ W (hr.below hb));have dM:=aa (ft w h ⟨.slice x1 y1 z1,.slice x2 y2 z2,.slice x3 y3 z3,.slice x4 y4 z4⟩);have db:=aa (ab (o:=.cells (ecl h ⟨.slice x1 y1 z1,.slice x2 y2 z2,.slice x3 y3 z3,.slice x4 y4 z4⟩) 33) (Below.refl w.heap.size w));rw[hh]at hP hM ⊢;have c0:=dM.out.cells;clear hr hz hh;unfold ecl at hP hM db ⊢;simp only at hP hM db c0 ⊢;go_enter func13,ntmps13;go_wp2_with fail
 refine(hP.out _).mono ?_;rintro e w1 ⟨p,rfl,H,ai⟩;have aq:=aa (ac db.out ai);have c1:=(dM.out.below ai).cells;simp only at c1;have hcall:=aa (hM.out w1 aq.out);by_cases hp:(32768:Int)<(p:Int)
 ·go_wp2_with(go_at_call 32;refine hcall.out.mono ?_;rintro e w2 ⟨rfl,ar⟩)
  go_ret;exact⟨true,rfl,(fun h=>by cases h),aq.out⟩
 obtain⟨bb,gd⟩:∃b,FI n x=b:=⟨_,rfl⟩
 rw[gd]at hcall;have Ip:=aa gd;clear gd;cases bb
 ·go_wp2_with(go_at_call 32;refine hcall.out.mono ?_;rintro e w2 ⟨rfl,ar⟩)
  go_ret;exact⟨false,cD (decide_eq_false (by omega)),(fun h=>⟨by have:=H.out.1 (by omega);omega,Ip.out⟩),ac aq.out ar⟩
 go_wp2_with(go_at_call 32;refine hcall.out.mono ?_;rintro e w2 ⟨rfl,ar⟩)
 go_ret;exact⟨true,rfl,(fun h=>by cases h),ac aq.out ar⟩
open Go.ChangeShapes Go.WideShapes Go.ChangeAt Go.RowKit Go.Joins
theorem UO:Tryz.prog.cellsOf 33=13:=by kernel_rfl
theorem Xm:Tryz.prog.cellsOf 22=1:=by kernel_rfl
theorem Xn:Tryz.prog.cellsOf 24=1:=by kernel_rfl
theorem CD{cs:List Value}(h:cs.length=13):∃a0 a1 a2 a3 v0 v1 v2 v3 v4 v5 v6 v7 v8,cs=[a0,a1,a2,a3,v0,v1,v2,v3,v4,v5,v6,v7,v8]:=by
 match cs,h with
 | [a0,a1,a2,a3,v0,v1,v2,v3,v4,v5,v6,v7,v8],_=>exact⟨_,_,_,_,_,_,_,_,_,_,_,_,_,rfl⟩
section
variable {H : Type} {enc : TypeId × Value → H} {W : World}
theorem open_ex:∀(fuel N:Nat),fuel<=N->∀(cs:List Value) (x:DataW H×List MemPlace),DataW.trod enc prog W 0 (fun _=>true) true fuel 33 cs=some x ->
  (∀q∈x.2,q.block<W.heap.size)->(∀k∈DataW.weights prog 33 x.1,k<=reachBytes)->∃(t:ET N) (q:Sl),cs=(ecl (ehd N t) q).toList/\RE N W t q/\zN N t:=by
 intro fuel
 induction fuel using Nat.strongRecOn with
 |ind fuel ih=>
  intro N hN cs x h hp hw;obtain⟨xs,n,rfl,rfl,aL,xh,qM⟩:=DataW.trod_struct Tryz.underlying33 h;obtain⟨M,rfl⟩:∃M,N=M+1:=⟨N-1,by omega⟩
  rw[UO]at aL;obtain⟨a0,a1,a2,a3,v0,v1,v2,v3,v4,v5,v6,v7,v8,rfl⟩:=CD aL;obtain⟨x0,x1,x2,x3,x4,rfl⟩:∃x0 x1 x2 x3 x4,xs=[x0,x1,x2,x3,x4]:=by
   match xs,xh with
   | [x0,x1,x2,x3,x4],_=>exact⟨_,_,_,_,_,rfl⟩
  have e0:=qM 0 _ rfl;have e1:=qM 1 _ rfl;have e2:=qM 2 _ rfl;have e3:=qM 3 _ rfl;have e4:=qM 4 _ rfl
  replace e0:DataW.trod enc prog W 0 (fun _=>true) true n 22 (([a0,a1,a2,a3,v0,v1,v2,v3,v4,v5,v6,v7,v8].drop 0).take (Tryz.prog.cellsOf 22))=some x0:=e0
  rw[Xm]at e0
  replace e1:DataW.trod enc prog W 0 (fun _=>true) true n 9 (([a0,a1,a2,a3,v0,v1,v2,v3,v4,v5,v6,v7,v8].drop 1).take (Tryz.prog.cellsOf 9))=some x1:=e1
  rw[c9]at e1
  replace e2:DataW.trod enc prog W 0 (fun _=>true) true n 23 (([a0,a1,a2,a3,v0,v1,v2,v3,v4,v5,v6,v7,v8].drop 2).take (Tryz.prog.cellsOf 23))=some x2:=e2
  rw[cS]at e2
  replace e3:DataW.trod enc prog W 0 (fun _=>true) true n 24 (([a0,a1,a2,a3,v0,v1,v2,v3,v4,v5,v6,v7,v8].drop 3).take (Tryz.prog.cellsOf 24))=some x3:=e3
  rw[Xn]at e3
  replace e4:DataW.trod enc prog W 0 (fun _=>true) true n 31 (([a0,a1,a2,a3,v0,v1,v2,v3,v4,v5,v6,v7,v8].drop 4).take (Tryz.prog.cellsOf 31))=some x4:=e4
  rw[cV]at e4
  replace e0:DataW.trod enc prog W 0 (fun _=>true) true n 22 [a0]=some x0:=e0
  replace e1:DataW.trod enc prog W 0 (fun _=>true) true n 9 [a1]=some x1:=e1
  replace e2:DataW.trod enc prog W 0 (fun _=>true) true n 23 [a2]=some x2:=e2
  replace e3:DataW.trod enc prog W 0 (fun _=>true) true n 24 [a3]=some x3:=e3
  replace e4:DataW.trod enc prog W 0 (fun _=>true) true n 31 [v0,v1,v2,v3,v4,v5,v6,v7,v8]=some x4:=e4
  obtain⟨kd,q0,rfl,_⟩:=DataW.trod_int Tryz.underlying22 e0;simp only[List.cons.injEq,and_true]at q0;subst q0;obtain⟨nm,q1,rfl,_⟩:=DataW.trod_string Tryz.underlying9 e1;simp only[List.cons.injEq,and_true]at q1;subst q1;have sJ:∀k,(k=nm.size\/k∈DataW.weights prog 23 x2.1\/k∈DataW.weights prog 24 x3.1\/k∈DataW.weights prog 31 x4.1)->k<=reachBytes:=by
   intro k hk;apply hw;simp only[DataW.weights,Tryz.underlying33,List.map_cons,List.map_nil,tX,List.mem_append,DataW.weightsEach];rcases hk with q|q|q|q
   ·subst q;simp
   ·simp[q]
   ·simp[q]
   simp[q]
  have qI:∀q∈x2.2,q.block<W.heap.size:=fun q hq=>hp q (by simp[hq]);have Nl:∀q∈x3.2,q.block<W.heap.size:=fun q hq=>hp q (by simp[hq]);have VP:∀q∈x4.2,q.block<W.heap.size:=fun q hq=>hp q (by simp[hq]);obtain⟨t4,ns4,ls4,Io,Gc,rh⟩:=KI n n (Nat.le_refl _) _ _ e4 VP (fun k hk=>sJ k (Or.inr (Or.inr (Or.inr hk))));have SD:nm.size<=281474976710656:=gH (sJ _ (Or.inl rfl));have Gf:∃nm:List ByteArray,NL W a2 nm/\nm.length<=281474976710656/\∀s∈nm,s.size<=281474976710656:=by
   rcases Deep.open_strs Tryz.underlying23 Tryz.underlying9 c9 e2 with⟨kZ,hx⟩|⟨a,len,cap,m,Sx,kZ,_,hl,hm,Ca,hx,hc⟩
   ·simp only[List.cons.injEq,and_true]at kZ
    exact⟨[],Or.inl ⟨kZ,rfl⟩,by simp,by intro s hs;simp at hs⟩
   simp only[List.cons.injEq,and_true]at kZ;simp only[if_true]at Ca;subst Ca;subst hx;have iu:((List.range len).map Sx).length=len:=by simp
   refine⟨(List.range len).map Sx,Or.inr ⟨a.block,a.off,m,a.spot,by rw[kZ,iu],by rw[iu];exact hl,hm,fun h0=>⟨?_,?_⟩,fun i hi=>?_⟩,?_,?_⟩
   ·rw[iu]at h0
    exact gA (a:=a) (hc 0 (by omega)).1
   ·rw[iu]at h0
    exact qI (.cell a.block (a.off+0)) (MemPlace.mem_row.2 ⟨0,by omega,rfl⟩)
   ·rw[iu]at hi
    have:=(hc i (by omega)).1;have ow:a.spot=none:=gA (a:=a) (hc 0 (by omega)).1;rw[ny ow]at this;rw[this,List.getElem_map,List.getElem_range]
   ·rw[iu]
    have:=sJ ((len+(m-len))*16) (Or.inr (Or.inl (by simp[DataW.weights,Tryz.underlying23,UR])));have:=gH this;omega
   intro s hs;obtain⟨i,hi,rfl⟩:=List.mem_map.1 hs;refine gH (sJ _ (Or.inr (Or.inl ?_)));simp only[DataW.weights,Tryz.underlying23,List.mem_cons,List.mem_append];refine Or.inr (Or.inl (je (d:=.lit (.string (Sx i).data.toList)) (List.mem_map.2 ⟨i,hi,rfl⟩) ?_));simp[DataW.weights]
  have Ig:∃l:List (ET M),EL M W a3 l/\∀y∈l,zN M y:=by
   rcases DataW.trod_slice Tryz.underlying24 e3 with⟨kZ,hx⟩|⟨a,len,cap,elems,rest,n3,zn,kZ,hx,_,hl,hm,hlen2,hele,gy,_⟩
   ·simp only[List.cons.injEq,and_true]at kZ
    exact⟨[],Or.inl ⟨kZ,rfl⟩,by intro s hs;simp at hs⟩
   simp only[List.cons.injEq,and_true]at kZ;subst hx;rw[UO]at hele Nl;have key:∀i,i<len->∃t:ET M,(∃q',W.rangeAt a.block (a.off+i*13) (ecl (ehd M t) q').toList/\RE M W t q')/\zN M t/\(a.add (i*13)).spot=none:=by
    intro i hi;have he:=hele i hi;rw[List.getElem?_eq_getElem (by omega)]at he;obtain⟨cs',hcells,RZ⟩:=Option.bind_eq_some_iff.1 he;obtain⟨_,Bb,vQ⟩:=World.cells?_some hcells;have jJ:elems[i]'(by omega)∈elems:=List.getElem_mem _;obtain⟨t,q',r1,r2,r3⟩:=ih n3 (by omega) M (by omega) cs' _ RZ
     (fun q hq=>Nl q (List.mem_append.2 (Or.inr (List.mem_flatMap.2 ⟨_,List.mem_append.2 (Or.inl jJ),hq⟩))))
     (fun k hk=>sJ k (Or.inr (Or.inr (Or.inl (by simp only[DataW.weights,Tryz.underlying24,List.mem_cons,List.mem_append];exact Or.inr (Or.inl (je (List.mem_map.2 ⟨_,jJ,rfl⟩) hk)))))))
    have vM:(a.add (i*13)).spot=none:=by have q:=vQ 0 (by omega);have q2:cs'[0]?=some cs'[0]:=List.getElem?_eq_getElem (by omega);rw[q2]at q;exact gA (a:=a.add (i*13)) (by simpa [Addr.add] using q)
    have Qe:(a.add (i*13)).block=a.block/\(a.add (i*13)).off=a.off+i*13:=by
     unfold Addr.add
     split
     ·rename_i q;rw[q];exact⟨rfl,rfl⟩
     exact⟨rfl,rfl⟩
    refine⟨t,⟨q',?_,r2⟩,r3,vM⟩;rw[<-r1];intro j v hj;have SX:j<13:=by have:=(List.getElem?_eq_some_iff.1 hj).1;omega
    have q:=vQ j SX;rw[hj,ny vM,Qe.1,Qe.2]at q;exact q
   obtain⟨l,iu,LZ⟩:=sv len key;refine⟨l,Or.inr ⟨a.block,a.off,cap,a.spot,by rw[kZ,iu],by rw[iu];exact hl,hm,fun h0=>⟨?_,?_⟩,fun i hi=>(LZ i hi).1⟩,?_⟩
   ·have:=(LZ 0 h0).2.2
    simpa [Addr.add] using this
   ·exact Nl (.cell a.block (a.off+0)) (List.mem_append.2 (Or.inl (MemPlace.mem_row.2 ⟨0,by omega,rfl⟩)))
   intro y hy;obtain⟨i,hi,rfl⟩:=List.mem_iff_getElem.1 hy;exact(LZ i hi).2.1
  obtain⟨nms,cm,df,zn⟩:=Gf;obtain⟨l,aJ,bq⟩:=Ig;refine⟨(⟨kd,nm,nms,n,t4⟩,l),⟨a2,a3,ns4,ls4⟩,?_,⟨cm,Gc,aJ⟩,⟨SD,df,zn,rh,bq⟩⟩;show[_,_,_,_,v0,v1,v2,v3,v4,v5,v6,v7,v8]=[_,_,_,_,_,_,_,_,_,_,_,_,_]
  have PY:[v0,v1,v2,v3,v4,v5,v6,v7,v8]=[_,_,_,_,_,_,_,_,_]:=Io;simp only[List.cons.injEq,and_true]at PY;obtain⟨rfl,rfl,rfl,rfl,rfl,rfl,rfl,rfl,rfl⟩:=PY;rfl
end
end Lx
