import Derived.Test.YtcnfchblfcfimaaGreatDoorZh17
import Derived.Laws.OwnMore
import Derived.Deep.AppendLies
import Derived.Deep.RegionHeld3
import Derived.Deep.RegionLaw
set_option linter.all false
set_option maxHeartbeats 2000000
set_option maxRecDepth 100000
namespace Go.Proofs.YtcnfchblfcfimaaGreatDoor
open Proofs.Tryz RowKit
def blk:(n:Nat)->VT n->Nat
 |0,_=>0
 |n+1,x=>1+x.1.text.size+x.1.dig.size+x.1.names.length+aA (x.1.names.map ByteArray.size)+aA (x.2.map (blk n))
def Sz:(n:Nat)->VT n->Prop
 |0,_=>True
 |n+1,x=>x.1.text.size<=281474976710656/\x.1.dig.size<=281474976710656/\x.1.names.length<=281474976710656/\(∀s∈x.1.names,s.size<=281474976710656)/\∀y∈x.2,Sz n y
theorem yy:∀(n:Nat) (x:VT n),jA n x<=blk n x
 |0,x=>Empty.elim x
 |n+1,x=>by
  simp only[jA,blk];have:aA (x.2.map (jA n))<=aA (x.2.map (blk n)):=by
   generalize x.2=l
   induction l with
   |nil=>exact Nat.le_refl _
   |cons a l ih=>simp only[List.map_cons,aA];have:=yy n a;omega
  omega
def BU:(n:Nat)->VT n->Bool
 |0,_=>false
 |n+1,x=>decide (2000<x.1.names.length)||x.2.any (BU n)
theorem FN{α:Type}{p:α->Bool}{l:List α}{i:Nat}(h:i<l.length)(hp:p l[i]=true):l.any p=true:=List.any_eq_true.2 ⟨_,List.getElem_mem h,hp⟩
theorem DS:∀(n:Nat) (x:VT n) (ns ls:Value) (w:World),RD n w x ns ls ->
  Calls prog 69 #[.agg (aP (aI n x) ns ls)] w fun e w'=>e=.returned (.bool (BU n x))/\Below w.heap.size w w':=by
 intro n
 induction n with
 |zero=>intro x;exact Empty.elim x
 |succ n ih=>
  intro x ns ls w hr;obtain⟨h,l⟩:=x;obtain⟨al,cl,rfl,bB,br⟩:=hr.len;obtain⟨an,cn,rfl,cm,df⟩:=hr.1.len;have hr:=aa hr;have ih':=aa ih;clear ih;simp only at cm df bB br;have ml:maxLen=9223372036854775807:=rfl;have dM:=aa (eg w h (.slice an h.names.length cn) (.slice al l.length cl));show Calls _ _ #[.agg #[.int .i64 h.kind,.bool h.flag,.bool h.neg,.string h.dig,.int .i64 h.exp,.int .u64 h.bits,.string h.text,.slice an h.names.length cn,.slice al l.length cl]] _ _;by_cases h2:(2000:Int)<(h.names.length:Int)
  ·have hD:BU (n+1) (h,l)=true:=by simp only[BU];rw[decide_eq_true (by omega)];rfl
   have jP:=aa hD;clear hD;go_enter func69,ntmps69;go_wp2_with fail
   go_ret;exact⟨by rw[jP.out];rfl,ab af⟩
  have hD:BU (n+1) (h,l)=l.any (BU n):=by simp only[BU];rw[decide_eq_false (by omega)];rfl
  have jP:=aa hD;clear hD;go_enter func69,ntmps69;go_wp2_with fail
  go_loopw [3] (fun i w'=>∃k:Nat,i=.int .i64 k/\k<=l.length/\Hid ((l.take k).any (BU n)=false/\Below w.heap.size w w'/\Bx w' w.heap.size h (.slice an h.names.length cn) (.slice al l.length cl))) (fun i _=>l.length-(intOf i).toNat)
  case atStart=>exact⟨0,rfl,Nat.zero_le _,rfl,ab af,dM.out⟩
  case round=>
   obtain⟨k,rfl,hk,H⟩:=hrel;obtain⟨c0,c1,c2,c3,c4,c5,c6,c7,c8⟩:=H.out.2.2.cells;clear c0 c1 c2 c3 c4 c5 c6 c7;by_cases aE:k<l.length
   ·have bF:(k:Int)<(l.length:Int):=by omega
    have cR:(k:Int)<9223372036854775807:=by omega
    obtain⟨b,o,c,he,cQ,gq,iE,ns',ls',bT,bf⟩:=hr.out.at k aE;have cy:=Value.slice.inj he;obtain⟨rfl,_,rfl⟩:=cy;clear he;obtain⟨q0,q1,q2,q3,q4,q5,q6,q7,q8⟩:=fm (am bT H.out.2.1 cQ);have cA:=aa (bf.below H.out.2.1);obtain⟨a1,m1,d1,a2,m2,d2,rfl,rfl⟩:=bf.shape;clear bT bf;have hcall:=aa (ih'.out l[k] (.slice a1 m1 d1) (.slice a2 m2 d2) wr cA.out);cases hm:BU n l[k]
    ·rw[hm]at hcall
     have Nm:=aa hm;clear hm;go_wp2_with(go_at_call 69;refine hcall.out.mono ?_;rintro e w1 ⟨rfl,ai⟩)
     refine⟨⟨k+1,by go_num,by omega,?_,ac H.out.2.1 ai,H.out.2.2.below ai⟩,by simp[intOf];omega⟩;rw[List.take_succ_eq_append_getElem aE,List.any_append,H.out.1];have:=Nm.out;simp only[List.any_cons,List.any_nil,Bool.or_false,Bool.false_or];exact this
    rw[hm]at hcall;have Nm:=aa hm;clear hm;go_wp2_with(go_at_call 69;refine hcall.out.mono ?_;rintro e w1 ⟨rfl,ai⟩)
    go_ret;exact⟨by rw[jP.out,FN aE Nm.out];rfl,ac H.out.2.1 ai⟩
   have bF:¬((k:Int)<(l.length:Int)):=by omega
   have hE:=H.out.1;rw[List.take_of_length_le (by omega)]at hE;have iJ:=aa hE;clear hE;go_wp2_with fail
   go_ret;exact⟨by rw[jP.out,iJ.out];rfl,H.out.2.1⟩
def tN(l:List ByteArray):List Value:=l.map Value.string
theorem wx(l:List ByteArray):(tN l).length=l.length:=by simp[tN]
theorem GM(l:List ByteArray):∀v∈tN l,v.oneCell'=true:=by intro u hu;simp only[tN,List.mem_map]at hu;obtain⟨c,_,rfl⟩:=hu;rfl
theorem Jq:(Tryz.prog.info? 9).map (fun i=>(i.zero,i.size,i.bytes))=some (some (.string ⟨#[]⟩),1,16):=by kernel_rfl
def nA(W:World)(B:Nat)(v:Value)(l:List ByteArray):Prop:=W.ownsRow B 9 1 v l.length (tN l)
theorem NL.news{w:World}{b o sp:Nat}{a:Addr}{n c:Nat}{l:List ByteArray}(h:NL w (.slice (some a) n c) l):∀j u,(tN l)[j]?=some u->w.cell? (a.add j)=some u:=by
 rcases h with⟨e,_⟩|⟨b,o,c,sp,e,h1,h2,h3,hc⟩
 ·cases e
 simp only[Value.slice.injEq,Option.some.injEq]at e;obtain⟨rfl,_,rfl⟩:=e;intro j u hj;simp only[tN,List.getElem?_map]at hj;obtain⟨x,hx,rfl⟩:=Option.map_eq_some_iff.1 hj;obtain⟨xA,rfl⟩:=List.getElem?_eq_some_iff.1 hx;obtain⟨rfl,_⟩:=h3 (by omega);rw[show(⟨b,o,none⟩:Addr).add j=⟨b,o+j,none⟩by unfold Addr.add;split<;>simp_all];exact hc j xA
section
variable {w : World} {ops : Array Oper} {rest : List Oper} {o : Oper} {a : Act} {Q : Exit → Act → World → Prop}
theorem rA(hgd:o.guard=none)(s x:Operand)(ho:o.op=.call {callee:=.builtin .append,args:=#[s,x],argTypes:=#[23,23]})
  (hs:a.eval s=.slice none 0 0) (an:Option Addr) (n cn:Nat) (l:List ByteArray) (hx:a.eval x=.slice an n cn) (hn:l.length=n) (hl:NL w (.slice an n cn) l) (hm:n<=281474976710)
  (h:∀av c' w',Hid (nA w' w.heap.size (.slice av n c') l)->Hid (Below w.heap.size w w')->wpList prog ops Q rest (a.put o.dst (.slice av n c')) w'):wpList prog ops Q (o::rest) a w:=by
 obtain⟨i0,hi,fY,gD,eR⟩:=info_parts Jq;cases an with
 |none=>
  have lI:n=0/\cn=0/\l=[]:=by
   rcases hl with⟨e,e2⟩|⟨_,_,_,_,e,_⟩
   ·simp only[Value.slice.injEq]at e;exact⟨e.2.1,e.2.2,e2⟩
   cases e
  obtain⟨rfl,rfl,rfl⟩:=lI;refine wpList_plain hgd fun K hK=>?_;have hr:=run_append_owned_none (P:=prog) w w.heap.size 23 o.type 9 i0 1 Tryz.underlying23 hi (.slice none 0 0) 0 [] (World.ownsRow_nil _ _ _ _);unfold Oper.wp execOp;simp only[ho,resolve,invoke,builtin,Sem.run_bind,Sem.run_pure,Result.andThen_ok,List.map_toArray,List.map_cons,List.map_nil,hs,hx,hr];exact hK _ _ (h none 0 w (World.ownsRow_nil _ _ _ _) af)
 |some ad=>
  refine wpList_append_own_at w hgd s x 23 ho w.heap.size 9 i0 (.string ⟨#[]⟩) 1 16 Tryz.underlying23 hi fY gD eR rfl (by decide) (.slice none 0 0) 0 [] hs (World.ownsRow_nil _ _ _ _) ad n cn (tN l) hx (by rw[wx,hn];simp) (NL.news hl (b:=0) (o:=0) (sp:=0)) (GM _) ?_ ?_ (Nat.le_refl _) ?_
  ·unfold maxLen;omega
  ·omega
  intro v' w' h1 h2 h3 _;simp only[Nat.zero_add,List.nil_append]at h1;have It:nA w' w.heap.size v' l:=by unfold nA;rw[hn];exact h1
  have hb:Below w.heap.size w w':=(Below.refl _ w).grown h2 (Nat.le_refl _) (fun k hk=>by cases hk);rcases h1.2 with⟨rfl,e⟩|⟨g,cap,cur,rfl,_⟩
  ·subst e;exact h none 0 w' It hb
  exact h _ _ w' It hb
end
theorem Lj:(Tryz.prog.info? 31).map (fun i=>(i.zero,i.size,i.bytes))=some (some (.agg #[.int .i64 0,.bool false,.bool false,.string ⟨#[]⟩,.int .i64 0,.int .u64 0,.string ⟨#[]⟩,.slice none 0 0,.slice none 0 0]),9,120):=by kernel_rfl
section
variable {w : World} {ops : Array Oper} {rest : List Oper} {o : Oper} {a : Act} {Q : Exit → Act → World → Prop}
theorem QB(hgd:o.guard=none)(s x:Operand)(ho:o.op=.call {callee:=.builtin .append,args:=#[s,x],argTypes:=#[29,29]})
  (B:Nat) (v:Value) (n:Nat) (xs:List Value) (hs:a.eval s=v) (bz:w.ownsRow B 31 9 v n xs) (g c:Nat) (hx:a.eval x=.slice (some ⟨g,0,none⟩) 1 c) (hd:Hd) (ns ls:Value) (hn:ns.oneCell'=true) (hl:ls.oneCell'=true)
  (hnews:w.rangeAt g 0 (aP hd ns ls).toList) (hm:n<=200000) (hB:B<=w.heap.size)
  (h:∀av c' w',Hid (w'.ownsRow B 31 9 (.slice av (n+1) c') (n+1) (xs++(aP hd ns ls).toList))->Hid (w.grownBy w' v.ownBlock)->Hid ((Value.slice av (n+1) c').ownBlock=v.ownBlock\/(Value.slice av (n+1) c').ownBlock=some w.heap.size)->wpList prog ops Q rest (a.put o.dst (.slice av (n+1) c')) w'):wpList prog ops Q (o::rest) a w:=by
 obtain⟨i0,hi,fY,gD,eR⟩:=info_parts Lj;refine wpList_append_own_at w hgd s x 29 ho B 31 i0 _ 9 120 Tryz.underlying29 hi fY gD eR rfl (by decide) v n xs hs bz ⟨g,0,none⟩ 1 c (aP hd ns ls).toList hx rfl ?_ ?_ ?_ ?_ hB ?_
 ·intro j u hj
  have:=hnews j u hj;rw[show(⟨g,0,none⟩:Addr).add j=⟨g,0+j,none⟩by unfold Addr.add;split<;>simp_all];exact this
 ·intro u hu
  simp only[aP,List.mem_cons,List.not_mem_nil,or_false]at hu;rcases hu with rfl|rfl|rfl|rfl|rfl|rfl|rfl|rfl|rfl
  all_goals first|rfl|exact hn|exact hl
 ·unfold maxLen;omega
 ·omega
 intro v' w' h1 h2 h3 h4;rcases h1.2 with⟨rfl,e⟩|⟨g',cap,cur,rfl,_⟩
 ·omega
 exact h _ _ w' h1 h2 h4
end
def KR(n:Nat)(W:World)(x:VT n)(ns ls:Value)(s e:Nat):Prop:=s<=e/\e<=W.heap.size/\∀W':World,(∀k,s<=k->k<e->W'.heap[k]?=W.heap[k]?)->RD n W' x ns ls
theorem KR.move{n:Nat}{W W1:World}{x:VT n}{ns ls:Value}{s e:Nat}(h:KR n W x ns ls s e)(hs:e<=W1.heap.size)(hb:∀k,s<=k->k<e->W1.heap[k]?=W.heap[k]?):KR n W1 x ns ls s e :=
 ⟨h.1,hs,fun W' h'=>h.2.2 W' fun k h1 h2=>(h' k h1 h2).trans (hb k h1 h2)⟩
theorem KR.rd{n:Nat}{W:World}{x:VT n}{ns ls:Value}{s e:Nat}(h:KR n W x ns ls s e):RD n W x ns ls:=h.2.2 W fun _ _ _=>rfl
structure LI(n:Nat)(l:List (VT n))(w1:World)(k:Nat)(lv:Value)(W:World):Prop where
 below:Below w1.heap.size w1 W
 row:∃xs,W.ownsRow w1.heap.size 31 9 lv k xs/\∀j (h:j<l.length),j<k->∃ns ls s e,KR n W l[j] ns ls s e/\w1.heap.size<=s/\(∀g,lv.ownBlock=some g->g<s\/e<=g)/\∀r v,(aP (aI n l[j]) ns ls).toList[r]?=some v->xs[j*9+r]?=some v
theorem LI.start{n:Nat}{l:List (VT n)}{w1:World}:LI n l w1 0 (.slice none 0 0) w1 :=
 ⟨af,[],World.ownsRow_nil _ _ _ _,fun j _ h=>by omega⟩
theorem LI.step{n:Nat}{l:List (VT n)}{w1 W w2 w3 w4:World}{k:Nat}{lv lv':Value}{xs:List Value}{ns ls:Value}(h:LI n l w1 k lv W)(hk:k<l.length)
  (hx:W.ownsRow w1.heap.size 31 9 lv k xs)
  (dU:∀j (h:j<l.length),j<k->∃ns ls s e,KR n W l[j] ns ls s e/\w1.heap.size<=s/\(∀g,lv.ownBlock=some g->g<s\/e<=g)/\∀r v,(aP (aI n l[j]) ns ls).toList[r]?=some v->xs[j*9+r]?=some v)
  (hc:KR n w2 l[k] ns ls W.heap.size w2.heap.size) (aq:Below W.heap.size W w2) (ar:Below w2.heap.size w2 w3) (hg:w3.grownBy w4 lv.ownBlock)
  (ho:w4.ownsRow w1.heap.size 31 9 lv' (k+1) (xs++(aP (aI n l[k]) ns ls).toList)) (sU:lv'.ownBlock=lv.ownBlock\/lv'.ownBlock=some w3.heap.size):LI n l w1 (k+1) lv' w4:=by
 have hB:=h.below.size;have nf:=hx.lt;have z2:=aq.size;have z3:=ar.size;have z4:=hg.size;refine⟨?_,_,ho,?_⟩
 ·refine(((h.below.trans (aq.mono hB)).trans (ar.mono (by omega))).grown hg (by omega) fun g dG=>(nf g dG).1)
 intro j hj oN;by_cases SV:j<k
 ·obtain⟨ns',ls',s,e,k1,k2,k3,k4⟩:=dU j hj SV
  refine⟨ns',ls',s,e,k1.move (by have:=k1.2.1;omega) ?_,k2,?_,?_⟩
  ·intro q q1 q2
   have:=k1.2.1;rw[hg.block q (by omega) (fun e1=>by rcases k3 q e1.symm with h|h<;>omega),ar.block q (by omega),aq.block q (by omega)]
  ·intro g dG
   rcases sU with h|h
   ·exact k3 g (h▸dG)
   rw[h]at dG;cases dG;right;have:=k1.2.1;omega
  intro r v hr;have:=k4 r v hr;rw[List.getElem?_append_left ((List.getElem?_eq_some_iff.1 this).1)];exact this
 obtain rfl:j=k:=by omega
 refine⟨ns,ls,W.heap.size,w2.heap.size,hc.move (by omega) ?_,hB,?_,?_⟩
 ·intro q q1 q2
  rw[hg.block q (by omega) (fun e1=>by have:=(nf q e1.symm).2;omega),ar.block q (by omega)]
 ·intro g dG
  rcases sU with h|h
  ·left;exact(nf g (h▸dG)).2
  rw[h]at dG;cases dG;right;omega
 intro r v hr;have hl:xs.length=j*9:=hx.1;rw[List.getElem?_append_right (by omega),hl,Nat.add_sub_cancel_left];exact hr
theorem LI.done{n:Nat}{h:Hd}{l:List (VT n)}{w w1 W W1:World}{nv lv:Value}(H:LI n l w1 l.length lv W)(ho:nA w1 (w.heap.size+2) nv h.names)(hz:w.heap.size+2<=w1.heap.size)
  (hs:W1.heap.size=W.heap.size) (hb:∀k,w.heap.size+2<=k->W1.heap[k]?=W.heap[k]?):KR (n+1) W1 (h,l) nv lv w.heap.size W1.heap.size:=by
 obtain⟨xs,hx,dU⟩:=H.row;have hB:=H.below.size;refine⟨by omega,Nat.le_refl _,fun W' h'=>⟨?_,?_⟩⟩
 ·have hr:=World.ownsRow.lt ho
  have nR:=ho;obtain⟨h0,h1⟩:=ho;rcases h1 with⟨rfl,e⟩|⟨g,cap,cur,rfl,k1,k2,k3,k4,k5,k6⟩
  ·exact Or.inl ⟨rfl,List.eq_nil_of_length_eq_zero e⟩
  have hg:=(hr g rfl).2;have ii:=(hr g rfl).1;have hsame:W'.heap[g]?=w1.heap[g]?:=by rw[h' g (by omega) (by omega),hb g ii,H.below.block g hg]
  refine Or.inr ⟨g,0,cap,none,rfl,k3,k4,fun _=>⟨rfl,?_⟩,fun i hi=>?_⟩
  ·by_cases bm:g<W'.heap.size
   ·exact bm
   rw[k2,Array.getElem?_eq_none (by omega)]at hsame;cases hsame
  rw[Nat.zero_add,World.cell?_of_block (a:=⟨g,i,none⟩) hsame,World.ownsRow.cellAt nR i (by simpa using hi)];simp[tN,hi]
 have hr:=World.ownsRow.lt hx;have gT:=hx;obtain⟨h0,h1⟩:=hx;rcases h1 with⟨rfl,e⟩|⟨g,cap,cur,rfl,k1,k2,k3,k4,k5,k6⟩
 ·exact Or.inl ⟨rfl,List.eq_nil_of_length_eq_zero e⟩
 have hg:=(hr g rfl).2;have hsame:W'.heap[g]?=W.heap[g]?:=by rw[h' g (by omega) (by omega),hb g (by omega)]
 refine Or.inr ⟨g,0,cap,none,rfl,k3,k4,fun _=>⟨rfl,?_⟩,fun i hi=>?_⟩
 ·by_cases bm:g<W'.heap.size
  ·exact bm
  rw[k2,Array.getElem?_eq_none (by omega)]at hsame;cases hsame
 obtain⟨ns',ls',s,e,q1,q2,q3,q4⟩:=dU i hi hi;refine⟨ns',ls',?_,q1.2.2 W' fun k r1 r2=>?_⟩
 ·intro r v Ia
  have hq:=q4 r v Ia;have bm:=(List.getElem?_eq_some_iff.1 hq).1;have QW:r<9:=(List.getElem?_eq_some_iff.1 Ia).1;rw[Nat.zero_add,World.cell?_of_block (a:=⟨g,i*9+r,none⟩) hsame,World.ownsRow.cellAt gT _ (by rw[h0]at bm;exact bm)];exact hq
 have:=q1.2.1;rw[h' k (by omega) (by omega),hb k (by omega)]
theorem II:∀(n:Nat) (x:VT n),1<=blk n x
 |0,x=>Empty.elim x
 |n+1,x=>by simp only[blk];omega
theorem IJ(n:Nat)(l:List (VT n)):l.length<=aA (l.map (blk n)):=by
 induction l with
 |nil=>simp[aA]
 |cons a l ih=>simp only[List.map_cons,aA,List.length_cons];have:=II n a;omega
theorem ML(n:Nat)(l:List (VT n))(k:Nat)(h:k<l.length):blk n l[k]<=aA (l.map (blk n)):=by have h1:=cZ (l.map (blk n)) k (by simpa using h);have h2:=eo (l.map (blk n)) (k+1);rw[List.getElem_map]at h1;omega
theorem aX{W W1:World}{B:Nat}{T:TypeId}{sz:Nat}{v:Value}{n:Nat}{xs:List Value}(h:W.ownsRow B T sz v n xs)(hb:∀k,v.ownBlock=some k->k<W.heap.size->W1.heap[k]?=W.heap[k]?):W1.ownsRow B T sz v n xs:=by
 have hr:=World.ownsRow.lt h;obtain⟨h0,h⟩:=h;refine⟨h0,?_⟩;rcases h with⟨rfl,e⟩|⟨g,cap,cur,rfl,h2,h3,h4⟩
 ·exact Or.inl ⟨rfl,e⟩
 exact Or.inr ⟨g,cap,cur,rfl,h2,by rw[hb g rfl (hr g rfl).2];exact h3,h4⟩
def ZB(W:World)(i:Nat):Prop:=W.heap[i]?=some (.cells #[.int .i64 0,.bool false,.bool false,.string ⟨#[]⟩,.int .i64 0,.int .u64 0,.string ⟨#[]⟩,.slice none 0 0,.slice none 0 0] 31 (0,0))
theorem ZB.cells{W:World}{i:Nat}(q:ZB W i):W.cell? ⟨i,0,none⟩=some (.int .i64 0)/\W.cell? ⟨i,1,none⟩=some (.bool false)/\W.cell? ⟨i,2,none⟩=some (.bool false)/\W.cell? ⟨i,3,none⟩=some (.string ⟨#[]⟩)/\W.cell? ⟨i,4,none⟩=some (.int .i64 0)/\W.cell? ⟨i,5,none⟩=some (.int .u64 0)/\W.cell? ⟨i,6,none⟩=some (.string ⟨#[]⟩)/\W.cell? ⟨i,7,none⟩=some (.slice none 0 0)/\W.cell? ⟨i,8,none⟩=some (.slice none 0 0):=by unfold ZB at q;simp[World.cell?,q]
theorem ZB.frz{W:World}{i:Nat}(q:ZB W i)(j:Nat):W.frozen? ⟨i,j,none⟩=false:=by unfold ZB at q;simp[World.frozen?,q]
theorem Bx.frz{W:World}{i:Nat}{h:Hd}{ns ls:Value}(q:Bx W i h ns ls)(j:Nat):W.frozen? ⟨i,j,none⟩=false:=by have:=q.at_;simp[World.frozen?,this]
theorem ga{W:World}{i o q:Nat}{u:Value}(h:q≠i):(W.setCell ⟨i,o,none⟩ u).heap[q]?=W.heap[q]?:=Below.heap_setCell _ _ _ _ h
theorem Aq(w:World)(h:Hd)(ns ls:Value):(w.alloc (.cells (aP h ns ls) 31)).rangeAt w.heap.size 0 (aP h ns ls).toList:=(eg w h ns ls).range
theorem Fy:∀(n:Nat) (x:VT n) (ns ls:Value) (w:World),RD n w x ns ls->blk n x<=200000 ->
  Calls prog 33 #[.agg (aP (aI n x) ns ls)] w fun e w'=>∃ns' ls',e=.returned (.agg (aP (aI n x) ns' ls'))/\Hid (KR n w' x ns' ls' w.heap.size w'.heap.size)/\Below w.heap.size w w':=by
 intro n
 induction n with
 |zero=>intro x;exact Empty.elim x
 |succ n ih=>
  intro x ns ls w hr kF;obtain⟨h,l⟩:=x;obtain⟨al,cl,rfl,bB,br⟩:=hr.len;obtain⟨an,cn,rfl,cm,df⟩:=hr.1.len;have hr:=aa hr;have ih':=aa ih;clear ih;have tT:h.names.length<=200000:=by simp only[blk]at kF;omega
  have cQ:l.length<=200000:=by have:=IJ n l;simp only[blk]at kF;omega
  have Qb:Hid (∀k (hk:k<l.length),blk n l[k]<=200000):=fun k hk=>by have:=ML n l k hk;simp only[blk]at kF;omega
  clear kF;simp only at cm df bB br;have dM:=aa (eg w h (.slice an h.names.length cn) (.slice al l.length cl));have ml:maxLen=9223372036854775807:=rfl;show Calls _ _ #[.agg #[.int .i64 h.kind,.bool h.flag,.bool h.neg,.string h.dig,.int .i64 h.exp,.int .u64 h.bits,.string h.text,.slice an h.names.length cn,.slice al l.length cl]] _ _;go_enter func33,ntmps33;go_wp2_with(at_builtin;refine rA rfl (.tmp 6) (.tmp 8) rfl rfl an _ cn h.names rfl rfl (hr.out.1.below (ab (ab af))) (by omega) ?_;intro av c' w1 qr ai)
  have gD:Hid (w.heap.size+2<=w1.heap.size):=by have:=ai.out.size;simp at this;show _<=_;omega
  have cP:Hid (Below w.heap.size w w1):=(ab (ab af)).trans (ai.out.mono (by simp;omega));have Qg:Hid (Bx w1 w.heap.size h (.slice an h.names.length cn) (.slice al l.length cl)):=(dM.out.below (ab af)).below ai.out;have qO:Hid (ZB w1 (w.heap.size+1)):=by show _=_;rw[ai.out.block _ (by simp)];rw[show w.heap.size+1=(w.alloc (.cells (aP h (.slice an h.names.length cn) (.slice al l.length cl)) 31)).heap.size by simp];exact heap_alloc_new _ _
  have tU:Hid (nA w1 (w.heap.size+2) (.slice av h.names.length c') h.names):=by have:=qr.out;simp at this;exact this
  clear dM qr ai;go_loopw [4,5] (fun u i w'=>∃(k:Nat) (av:Option Addr) (c:Nat),i=.int .i64 k/\u=.slice av k c/\k<=l.length/\Hid (LI n l w1 k u w')) (fun _ i _=>l.length-(intOf i).toNat)
  case atStart=>exact⟨0,none,0,rfl,rfl,Nat.zero_le _,LI.start⟩
  case round=>
   obtain⟨k,lav,lc,rfl,rfl,hk,H⟩:=hrel;have hX:=aa (Qg.out.below H.out.below);obtain⟨c0,c1,c2,c3,c4,c5,c6,c7,c8⟩:=hX.out.cells;by_cases aE:k<l.length
   ·have bF:(k:Int)<(l.length:Int):=by omega
    obtain⟨b,o,c,he,md,gq,iE,ns',ls',bT,bf⟩:=hr.out.at k aE;have cy:=Value.slice.inj he;obtain⟨rfl,_,rfl⟩:=cy;clear he;have Pf:Hid (Below w.heap.size w wr):=cP.out.trans (H.out.below.mono (by have:=gD.out;omega));have Sj:=am bT Pf.out md;have Ib:=aa (bf.below Pf.out);obtain⟨d0,d1,d2,d3,d4,d5,d6,d7,d8⟩:=fm Sj;have cal:=aa (ih'.out l[k] ns' ls' wr Ib.out (Qb.out k aE));simp only at d0 d1 d2 d3 d4 d5 d6 d7 d8;obtain⟨y,hy⟩:∃y,l[k]=y:=⟨_,rfl⟩
    obtain⟨hd,Un⟩:∃hd,aI n l[k]=hd:=⟨_,rfl⟩
    rw[Un]at d0 d1 d2 d3 d4 d5 d6 cal;simp only[aP]at cal;clear bT bf;obtain⟨xs,hx,dU⟩:=H.out.row;have Hx:=aa hx;have Hall:=aa dU;clear hx dU;go_wp2_with fail
    refine cal.out.mono ?_;rintro e w2 ⟨ns2,ls2,rfl,nU,aq⟩;rw[<-hy]at *
    obtain⟨q1,q2,q3,q4,q5,q6,rfl,rfl⟩:=nU.out.rd.shape;have eR:=aq.size;have sS:=aa aq;clear aq;go_wp2_with(at_builtin;refine QB rfl (.tmp 17) (.tmp 24) rfl w1.heap.size _ k xs rfl (aX Hx.out fun g hg bm=>by rw[Below.heap_alloc _ _ _ (by omega),sS.out.block g bm]) w2.heap.size 1 rfl hd (.slice q1 q2 q3) (.slice q4 q5 q6) rfl rfl (Aq w2 hd (.slice q1 q2 q3) (.slice q4 q5 q6)) (by omega) (by have:=H.out.below.size;simp;omega) ?_;intro av2 c2 w4 Sy Md Mo)
    refine⟨⟨k+1,av2,c2,by go_num,rfl,by omega,?_⟩,by simp[intOf];omega⟩;show LI _ _ _ _ _ _;refine LI.step (w2:=w2) (w3:=w2.alloc (.cells (aP hd (.slice q1 q2 q3) (.slice q4 q5 q6)) 31)) (ns:=.slice q1 q2 q3) (ls:=.slice q4 q5 q6) H.out aE Hx.out Hall.out nU.out sS.out (ab af) Md.out ?_ Mo.out;rw[Un];exact Sy.out
   have ox:k=l.length:=by omega
   have bF:¬((k:Int)<(l.length:Int)):=by omega
   have hZ:ZB wr (w.heap.size+1):=(H.out.below.block _ (by have:=gD.out;omega)).trans qO.out;obtain⟨r0,r1,r2,r3,r4,r5,r6,r7,r8⟩:=hZ.cells;have fz:=hZ.frz;have fx:=hX.out.frz;have Uk:=aa ox;clear ox hZ;go_wp2_with fail
   refine bodyPost_ret (v:=.agg #[.int .i64 h.kind,.bool h.flag,.bool h.neg,.string h.dig,.int .i64 h.exp,.int .u64 h.bits,.string h.text,.slice av h.names.length c',.slice lav k lc]) (by simp[results,Tryz.results33,go_sem, *]) rfl ⟨.slice av h.names.length c',.slice lav k lc,rfl,?_,?_⟩
   ·have e:=Uk.out
    subst e;refine LI.done (W:=wr) H.out tU.out gD.out (by simp) ?_;intro q hq;simp only[ga (show q≠w.heap.size by omega),ga (show q≠w.heap.size+1 by omega)]
   have db:Below w.heap.size w wr:=cP.out.trans (H.out.below.mono (by have:=gD.out;omega));iterate 11 refine Below.setCell ?_ (by show _<=_;first|exact Nat.le_refl _|exact Nat.le_succ _) _
   exact db
