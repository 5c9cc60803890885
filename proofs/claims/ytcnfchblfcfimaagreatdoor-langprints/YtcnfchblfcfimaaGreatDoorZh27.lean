import Derived.Test.YtcnfchblfcfimaaGreatDoorZh26
import Derived.Test.YtcnfchblfcfimaaGreatDoorZh24
set_option linter.all false
set_option maxHeartbeats 2000000
set_option maxRecDepth 100000
namespace Go.Proofs.YtcnfchblfcfimaaGreatDoor
open Proofs.Tryz RowKit
namespace Lx
structure Eh where
 op:Int
 name:ByteArray
 names:List ByteArray
 vn:Nat
 val:VT vn
def ET:Nat->Type
 |0=>Empty
 |n+1=>Eh×List (ET n)
def ehd:(n:Nat)->ET n->Eh
 |0,x=>Empty.elim x
 |_+1,x=>x.1
structure Sl where
 ns:Value
 ls:Value
 vs:Value
 vl:Value
def ecl(h:Eh)(s:Sl):Array Value:=#[.int .i64 h.op,.string h.name,s.ns,s.ls,.int .i64 (aI h.vn h.val).kind,.bool (aI h.vn h.val).flag,.bool (aI h.vn h.val).neg,.string (aI h.vn h.val).dig,.int .i64 (aI h.vn h.val).exp,.int .u64 (aI h.vn h.val).bits,.string (aI h.vn h.val).text,s.vs,s.vl]
def UW{α:Type}(hd:α->Eh)(R:α->Sl->Prop)(w:World)(v:Value)(l:List α):Prop :=
 (v=.slice none 0 0/\l=[])\/∃(b o c:Nat) (sp:Option Nat),v=.slice (some ⟨b,o,sp⟩) l.length c/\l.length<=c/\c<=maxLen/\(0<l.length->sp=none/\b<w.heap.size) /\
   ∀i (h:i<l.length),∃s,w.rangeAt b (o+i*13) (ecl (hd l[i]) s).toList/\R l[i] s
def RE:(n:Nat)->World->ET n->Sl->Prop
 |0,_,_,_=>False
 |n+1,w,x,s=>NL w s.ns x.1.names/\RD x.1.vn w x.1.val s.vs s.vl/\UW (ehd n) (fun y s'=>RE n w y s') w s.ls x.2
def EL(n:Nat)(w:World)(v:Value)(l:List (ET n)):Prop:=UW (ehd n) (fun y s'=>RE n w y s') w v l
theorem RE.below:∀ {n:Nat} {w W:World} {x:ET n} {s:Sl},RE n w x s->Below w.heap.size w W->RE n W x s
 |0,_,_,x,_,_,_=>Empty.elim x
 |n+1,w,W,x,s,h,hb=>by
  obtain⟨h1,hv,h2⟩:=h;refine⟨h1.below hb,hv.below hb,?_⟩;rcases h2 with h2|⟨b,o,c,sp,e,k1,k2,k3,hc⟩
  ·exact Or.inl h2
  refine Or.inr ⟨b,o,c,sp,e,k1,k2,fun h=>⟨(k3 h).1,Nat.lt_of_lt_of_le (k3 h).2 hb.size⟩,fun i hi=>?_⟩;obtain⟨s',r1,r2⟩:=hc i hi;exact⟨s',am r1 hb (k3 (by omega)).2,RE.below r2 hb⟩
theorem EL.below{n:Nat}{w W:World}{v:Value}{l:List (ET n)}(h:EL n w v l)(hb:Below w.heap.size w W):EL n W v l:=by
 rcases h with h2|⟨b,o,c,sp,e,k1,k2,k3,hc⟩
 ·exact Or.inl h2
 refine Or.inr ⟨b,o,c,sp,e,k1,k2,fun h=>⟨(k3 h).1,Nat.lt_of_lt_of_le (k3 h).2 hb.size⟩,fun i hi=>?_⟩;obtain⟨s',r1,r2⟩:=hc i hi;exact⟨s',am r1 hb (k3 (by omega)).2,RE.below r2 hb⟩
theorem RE.tl{n:Nat}{w:World}{x:ET (n+1)}{s:Sl}(h:RE (n+1) w x s):EL n w s.ls x.2:=h.2.2
theorem EL.len{n:Nat}{w:World}{v:Value}{l:List (ET n)}(h:EL n w v l):∃a c,v=.slice a l.length c/\l.length<=c/\c<=maxLen:=by
 rcases h with⟨rfl,rfl⟩|⟨b,o,c,sp,rfl,h1,h2,_⟩
 ·exact⟨none,0,rfl,Nat.le_refl _,by decide⟩
 exact⟨_,c,rfl,h1,h2⟩
theorem EL.at{n:Nat}{w:World}{v:Value}{l:List (ET n)}(h:EL n w v l)(i:Nat)(hi:i<l.length):∃b o c,v=.slice (some ⟨b,o,none⟩) l.length c/\b<w.heap.size/\l.length<=c/\c<=maxLen/\∃s,w.rangeAt b (o+i*13) (ecl (ehd n l[i]) s).toList/\RE n w l[i] s:=by
 rcases h with⟨rfl,e⟩|⟨b,o,c,sp,rfl,h1,h2,h3,hc⟩
 ·rw[e]at hi;simp at hi
 obtain⟨rfl,hb⟩:=h3 (by omega);exact⟨b,o,c,rfl,hb,h1,h2,hc i hi⟩
def qp:(n:Nat)->ET n->ET (n+1)
 |0,x=>Empty.elim x
 |n+1,x=>(x.1,x.2.map (qp n))
theorem Fr:∀(n:Nat) (x:ET n),ehd (n+1) (qp n x)=ehd n x
 |0,x=>Empty.elim x
 |_+1,_=>rfl
theorem RE.up:∀ {n:Nat} {w:World} {x:ET n} {s:Sl},RE n w x s->RE (n+1) w (qp n x) s
 |0,_,x,_,_=>Empty.elim x
 |n+1,w,x,s,h=>by
  obtain⟨h1,hv,h2⟩:=h;refine⟨h1,hv,?_⟩;rcases h2 with⟨e1,e2⟩|⟨b,o,c,sp,e,k1,k2,k3,hc⟩
  ·exact Or.inl ⟨e1,by simp[qp,e2]⟩
  have hl:(qp (n+1) x).2.length=x.2.length:=by simp[qp]
  refine Or.inr ⟨b,o,c,sp,by rw[hl];exact e,by rw[hl];exact k1,k2,by rw[hl];exact k3,fun i hi=>?_⟩;rw[hl]at hi;obtain⟨s',r1,r2⟩:=hc i hi;refine⟨s',?_,?_⟩
  ·simp only[qp,List.getElem_map,Fr];exact r1
  simp only[qp,List.getElem_map];exact RE.up r2
theorem RE.shape:∀ {n:Nat} {w:World} {x:ET n} {s:Sl},RE n w x s->∃a m c a' m' c' a2 m2 c2 a3 m3 c3,s=⟨.slice a m c,.slice a' m' c',.slice a2 m2 c2,.slice a3 m3 c3⟩
 |0,_,x,_,_=>Empty.elim x
 |n+1,w,x,s,h=>by obtain⟨a,c,e,_⟩:=h.1.len;obtain⟨a',c',e',_⟩:=h.tl.len;have hv:=h.2.1;obtain⟨a2,m2,c2,a3,m3,c3,e2,e3⟩:=hv.shape;refine⟨a,x.1.names.length,c,a',x.2.length,c',a2,m2,c2,a3,m3,c3,?_⟩;cases s;simp only at e e' e2 e3;rw[e,e',e2,e3]
theorem Ll:(Tryz.prog.info? 33).map (fun i=>(i.zero,i.size,i.bytes))=some (some (.agg #[.int .i64 0,.string ⟨#[]⟩,.slice none 0 0,.slice none 0 0,.int .i64 0,.bool false,.bool false,.string ⟨#[]⟩,.int .i64 0,.int .u64 0,.string ⟨#[]⟩,.slice none 0 0,.slice none 0 0]),13,192):=by kernel_rfl
def KE(n:Nat)(W:World)(x:ET n)(q:Sl)(s e:Nat):Prop:=s<=e/\e<=W.heap.size/\∀W':World,(∀k,s<=k->k<e->W'.heap[k]?=W.heap[k]?)->RE n W' x q
theorem KE.move{n:Nat}{W W1:World}{x:ET n}{q:Sl}{s e:Nat}(h:KE n W x q s e)(hs:e<=W1.heap.size)(hb:∀k,s<=k->k<e->W1.heap[k]?=W.heap[k]?):KE n W1 x q s e :=
 ⟨h.1,hs,fun W' h'=>h.2.2 W' fun k h1 h2=>(h' k h1 h2).trans (hb k h1 h2)⟩
theorem KE.rd{n:Nat}{W:World}{x:ET n}{q:Sl}{s e:Nat}(h:KE n W x q s e):RE n W x q:=h.2.2 W fun _ _ _=>rfl
theorem KE.up{n:Nat}{W:World}{x:ET n}{q:Sl}{s e:Nat}(h:KE n W x q s e):KE (n+1) W (qp n x) q s e:=⟨h.1,h.2.1,fun W' h'=>(h.2.2 W' h').up⟩
theorem KE.wide{n:Nat}{W:World}{x:ET n}{q:Sl}{s e s' e':Nat}(h:KE n W x q s e)(h1:s'<=s)(h2:e<=e')(h3:e'<=W.heap.size):KE n W x q s' e':=⟨by have:=h.1;omega,h3,fun W' h'=>h.2.2 W' fun k a b=>h' k (by omega) (by omega)⟩
def ER(n L:Nat)(W:World)(v:Value)(l:List (ET n)):Prop:=∃xs,W.ownsRow L 33 13 v l.length xs/\∀j (h:j<l.length),∃q s e,KE n W l[j] q s e/\L<=s/\(∀g,v.ownBlock=some g->g<s\/e<=g)/\∀r u,(ecl (ehd n l[j]) q).toList[r]?=some u->xs[j*13+r]?=some u
theorem ER.nil{n L:Nat}{W:World}:ER n L W (.slice none 0 0) []:=⟨[],World.ownsRow_nil _ _ _ _,fun j h=>by simp at h⟩
theorem ER.shape{n L:Nat}{W:World}{v:Value}{l:List (ET n)}(h:ER n L W v l):∃a c,v=.slice a l.length c:=by
 obtain⟨xs,h,_⟩:=h;rcases h.2 with⟨rfl,e⟩|⟨g,cap,cur,rfl,_⟩
 ·exact⟨none,0,by rw[e]⟩
 exact⟨_,_,rfl⟩
theorem ER.push{n L:Nat}{W w2 w3 w4:World}{v v':Value}{l:List (ET n)}{x:ET n}{q:Sl}{xs:List Value}{s0:Nat}(hx:W.ownsRow L 33 13 v l.length xs)
  (dU:∀j (h:j<l.length),∃q s e,KE n W l[j] q s e/\L<=s/\(∀g,v.ownBlock=some g->g<s\/e<=g)/\∀r u,(ecl (ehd n l[j]) q).toList[r]?=some u->xs[j*13+r]?=some u)
  (hL:L<=W.heap.size) (ow:W.heap.size<=s0) (hc:KE n w2 x q s0 w2.heap.size) (z2:w2.heap.size<=w3.heap.size) (hb:∀k,L<=k->k<W.heap.size->w3.heap[k]?=W.heap[k]?) (ar:∀k,s0<=k->k<w2.heap.size->w3.heap[k]?=w2.heap[k]?) (hg:w3.grownBy w4 v.ownBlock)
  (ho:w4.ownsRow L 33 13 v' (l.length+1) (xs++(ecl (ehd n x) q).toList)) (sU:v'.ownBlock=v.ownBlock\/v'.ownBlock=some w3.heap.size):ER n L w4 v' (l++[x]):=by
 have nf:=hx.lt;have z1:=hc.1;have z4:=hg.size;refine⟨xs++(ecl (ehd n x) q).toList,by rw[List.length_append];exact ho,fun j hj=>?_⟩;rw[List.length_append,List.length_singleton]at hj;by_cases oN:j<l.length
 ·obtain⟨q',s,e,k1,k2,k3,k4⟩:=dU j oN
  rw[List.getElem_append_left oN];refine⟨q',s,e,k1.move (by have:=k1.2.1;omega) ?_,k2,?_,?_⟩
  ·intro k q1 q2
   have:=k1.2.1;rw[hg.block k (by omega) (fun e1=>by rcases k3 k e1.symm with h|h<;>omega),hb k (by omega) (by omega)]
  ·intro g dG
   rcases sU with h|h
   ·exact k3 g (h▸dG)
   rw[h]at dG;cases dG;right;have:=k1.2.1;omega
  intro r u hr;have:=k4 r u hr;rw[List.getElem?_append_left ((List.getElem?_eq_some_iff.1 this).1)];exact this
 obtain rfl:j=l.length:=by omega
 rw[List.getElem_append_right (Nat.le_refl _)];simp only[Nat.sub_self,List.getElem_cons_zero];refine⟨q,s0,w2.heap.size,hc.move (by omega) ?_,by omega,?_,?_⟩
 ·intro k q1 q2
  rw[hg.block k (by omega) (fun e1=>by have:=(nf k e1.symm).2;omega),ar k (by omega) (by omega)]
 ·intro g dG
  rcases sU with h|h
  ·left;have:=(nf g (h▸dG)).2;omega
  rw[h]at dG;cases dG;right;omega
 intro r u hr;have hl:xs.length=l.length*13:=hx.1;rw[List.getElem?_append_right (by omega),hl,Nat.add_sub_cancel_left];exact hr
theorem ER.el{n L:Nat}{W W':World}{v:Value}{l:List (ET n)}(h:ER n L W v l)(hb:∀k,L<=k->k<W.heap.size->W'.heap[k]?=W.heap[k]?):EL n W' v l:=by
 obtain⟨xs,hx,dU⟩:=h;have hr:=World.ownsRow.lt hx;have gT:=hx;obtain⟨h0,h1⟩:=hx;rcases h1 with⟨rfl,e⟩|⟨g,cap,cur,rfl,k1,k2,k3,k4,k5,k6⟩
 ·exact Or.inl ⟨rfl,List.eq_nil_of_length_eq_zero e⟩
 have hg:=(hr g rfl).2;have hsame:W'.heap[g]?=W.heap[g]?:=hb g (hr g rfl).1 hg;refine Or.inr ⟨g,0,cap,none,rfl,k3,k4,fun _=>⟨rfl,?_⟩,fun i hi=>?_⟩
 ·by_cases bm:g<W'.heap.size
  ·exact bm
  rw[k2,Array.getElem?_eq_none (by omega)]at hsame;cases hsame
 obtain⟨q',s,e,q1,q2,q3,q4⟩:=dU i hi;refine⟨q',?_,q1.2.2 W' fun k r1 r2=>hb k (by omega) (by have:=q1.2.1;omega)⟩;intro r u Ia;have hq:=q4 r u Ia;have bm:=(List.getElem?_eq_some_iff.1 hq).1;rw[Nat.zero_add,World.cell?_of_block (a:=⟨g,i*13+r,none⟩) hsame,World.ownsRow.cellAt gT _ (by rw[h0]at bm;exact bm)];exact hq
section
variable {w : World} {ops : Array Oper} {rest : List Oper} {o : Oper} {a : Act} {Q : Exit → Act → World → Prop}
theorem tI(hgd:o.guard=none)(s x:Operand)(ho:o.op=.call {callee:=.builtin .append,args:=#[s,x],argTypes:=#[24,24]})
  (B:Nat) (v:Value) (n:Nat) (xs:List Value) (hs:a.eval s=v) (bz:w.ownsRow B 33 13 v n xs) (g c:Nat) (hx:a.eval x=.slice (some ⟨g,0,none⟩) 1 c) (hd:Eh) (q:Sl) (h1:q.ns.oneCell'=true) (h2:q.ls.oneCell'=true) (h3:q.vs.oneCell'=true) (h4:q.vl.oneCell'=true)
  (hnews:w.rangeAt g 0 (ecl hd q).toList) (hm:n<=200000) (hB:B<=w.heap.size)
  (h:∀av c' w',Hid (w'.ownsRow B 33 13 (.slice av (n+1) c') (n+1) (xs++(ecl hd q).toList))->Hid (w.grownBy w' v.ownBlock)->Hid ((Value.slice av (n+1) c').ownBlock=v.ownBlock\/(Value.slice av (n+1) c').ownBlock=some w.heap.size)->wpList prog ops Q rest (a.put o.dst (.slice av (n+1) c')) w'):wpList prog ops Q (o::rest) a w:=by
 obtain⟨i0,hi,fY,gD,eR⟩:=info_parts Ll;refine wpList_append_own_at w hgd s x 24 ho B 33 i0 _ 13 192 Tryz.underlying24 hi fY gD eR rfl (by decide) v n xs hs bz ⟨g,0,none⟩ 1 c (ecl hd q).toList hx rfl ?_ ?_ ?_ ?_ hB ?_
 ·intro j u hj
  have:=hnews j u hj;rw[show(⟨g,0,none⟩:Addr).add j=⟨g,0+j,none⟩by unfold Addr.add;split<;>simp_all];exact this
 ·intro u hu
  simp only[ecl,List.mem_cons,List.not_mem_nil,or_false]at hu;rcases hu with rfl|rfl|rfl|rfl|rfl|rfl|rfl|rfl|rfl|rfl|rfl|rfl|rfl
  all_goals first|rfl|exact h1|exact h2|exact h3|exact h4
 ·unfold maxLen;omega
 ·omega
 intro v' w' h1 h2 h3 h4;rcases h1.2 with⟨rfl,e⟩|⟨g',cap,cur,rfl,_⟩
 ·omega
 exact h _ _ w' h1 h2 h4
end
def aR:ByteArray:=⟨#[]⟩
def vH(k:Int)(fl neg:Bool)(dig:ByteArray)(ex:Int)(tx:ByteArray):VT 1:=(⟨k,fl,neg,dig,ex,0,tx,[]⟩,[])
def vz:VT 1:=vH 0 false false aR 0 aR
def lf(op:Int):Eh:=⟨op,aR,[],1,vz⟩
def cq(m:List UInt8):List Tk->Bool×List Tk
 | []=>(false,[])
 |t::r=>vo m t r
def dc(m:List UInt8):List Tk->Sum Int (List Tk)
 | []=>.inl 0
 |t::r=>pl m t r
def go(ns:List (List UInt8)):List Tk->Sum Int (List UInt8×List Tk)
 | []=>.inl 0
 |t::r=>jB ns t r
def gM{α:Type}(S:List Tk->Sum Int (α×List Tk)):Nat->List α->List Tk->Sum Int (List α×List Tk)
 |0,_,_=>.inl 0
 |g+1,acc,l=>if (cq [59] l).1 then (match S (cq [59] l).2 with
  | .inl p=>.inl p
  | .inr x=>gM S g (acc++[x.1]) x.2) else .inr (acc,(cq [59] l).2)
def pL{m:Nat}:List (ET m)->ET (m+1)
 | [y]=>qp m y
 |l=>(lf 12,l)
def jH{m:Nat}(S:List Tk->Sum Int (ET m×List Tk))(l:List Tk):Sum Int (ET (m+1)×List Tk):=match S l with
 | .inl p=>.inl p
 | .inr x=>match gM S l.length [x.1] x.2 with
  | .inl p=>.inl p
  | .inr y=>.inr (pL y.1,y.2)
def oi{α:Type}(m:List UInt8)(I:List Tk->Sum Int (α×List Tk)):Nat->List (List UInt8)->List α->List Tk->Sum Int (List (List UInt8)×List α×List Tk)
 |0,_,_,_=>.inl 0
 |g+1,ns,xs,l=>match go ns l with
  | .inl p=>.inl p
  | .inr s=>match dc m s.2 with
   | .inl p=>.inl p
   | .inr l2=>match I l2 with
    | .inl p=>.inl p
    | .inr x=>if (cq [125] x.2).1 then .inr (ns++[s.1],xs++[x.1],(cq [125] x.2).2) else (match dc [44] (cq [125] x.2).2 with
     | .inl p=>.inl p
     | .inr l5=>oi m I g (ns++[s.1]) (xs++[x.1]) l5)
def dK{α:Type}(m:List UInt8)(I:List Tk->Sum Int (α×List Tk))(l:List Tk):Sum Int (List (List UInt8)×List α×List Tk):=if (cq [125] l).1 then .inr ([],[],(cq [125] l).2) else oi m I l.length [] [] (cq [125] l).2
def vT{m:Nat}(M:List Tk->Sum Int (ET m×List Tk))(op:Int)(l:List Tk):Sum Int (ET (m+1)×List Tk):=match dK [61] M l with
 | .inl p=>.inl p
 | .inr y=>.inr ((⟨op,aR,y.1.map aj,1,vz⟩,y.2.1),y.2.2)
def vB{α:Type}(M:List Tk->Sum Int (α×List Tk))(k:List UInt8)(l:List Tk):Sum Int (α×List Tk):=match M l with
 | .inl p=>.inl p
 | .inr x=>match dc k x.2 with
  | .inl p=>.inl p
  | .inr l'=>.inr (x.1,l')
def qS:List Tk->Sum Int (VT 1×List Tk)
 | []=>.inl 0
 |t::r=>if t.w=2 then .inr (vH 5 false false aR 0 (aj t.s),r)
  else if t.w=3 then .inr (vH 3 false (cx t.s).1 (cx t.s).2.1 (cx t.s).2.2.1 aR,r)
  else if bj t=[110,117,108,108] then .inr (vH 1 false false aR 0 aR,r)
  else if bj t=[116,114,117,101] then .inr (vH 2 true false aR 0 aR,r)
  else if bj t=[102,97,108,115,101] then .inr (vH 2 false false aR 0 aR,r)
  else .inl t.p
def Dq(o:List UInt8):Option Int:=if o=[105,100] then some 1 else if o=[116,111,116,101,120,116] then some 8 else if o=[116,111,110,117,109] then some 9 else if o=[115,117,109] then some 10 else if o=[99,111,117,110,116] then some 11 else none
def Ci{m:Nat}(op:Int)(l:List Tk):Sum Int (ET (m+1)×List Tk):=match go [] l with
 | .inl p=>.inl p
 | .inr s=>.inr ((⟨op,aj s.1,[],1,vz⟩,[]),s.2)
def qB{m:Nat}(M:List Tk->Sum Int (ET m×List Tk)):List Tk->Sum Int (ET (m+1)×List Tk)
 | []=>.inl 0
 |t::r=>
  if bj t=[40] then (match vB M [41] r with
   | .inl p=>.inl p
   | .inr x=>.inr (qp m x.1,x.2))
  else if bj t=[91] then (match vB M [93] r with
   | .inl p=>.inl p
   | .inr x=>.inr ((lf 4,[x.1]),x.2))
  else if bj t=[46] then Ci 2 r
  else if bj t=[116,97,103] then Ci 5 r
  else if bj t=[123] then vT M 3 r
  else if bj t=[99,97,115,101] then (match dc [123] r with
   | .inl p=>.inl p
   | .inr l=>vT M 6 l)
  else if bj t=[99,111,110,115,116] then (match qS r with
   | .inl p=>.inl p
   | .inr v=>.inr ((⟨7,aR,[],1,v.1⟩,[]),v.2))
  else match Dq (bj t)with
   |some op=>.inr ((lf op,[]),r)
   |none=>.inl t.p
def dp:Nat->Nat
 |0=>0
 |f+1=>dp f+2
def BO:(f:Nat)->List Tk->Sum Int (ET (dp f)×List Tk)
 |0,_=>.inl 0
 |f+1,l=>qB (m:=dp f+1) (jH (BO f)) l
def kO(l:List Tk):Prop:=∃r e,l=r++[⟨0,[],e⟩]/\∀t∈r,t.s.length<=70000
theorem kO.tail{t:Tk}{l:List Tk}(h:kO (t::l))(hw:¬t.w=0):kO l:=by
 obtain⟨r,e,h,hs⟩:=h;cases r with
 |nil=>simp only[List.nil_append,List.cons.injEq]at h;rw[h.1]at hw;exact absurd rfl hw
 |cons a r=>simp only[List.cons_append,List.cons.injEq]at h;exact⟨r,e,h.2,fun t ht=>hs t (List.mem_cons_of_mem _ ht)⟩
theorem kO.short{t:Tk}{l:List Tk}(h:kO (t::l)):t.s.length<=70000:=by
 obtain⟨r,e,h,hs⟩:=h;cases r with
 |nil=>simp only[List.nil_append,List.cons.injEq]at h;rw[h.1];simp
 |cons a r=>simp only[List.cons_append,List.cons.injEq]at h;rw[h.1];exact hs a (by simp)
theorem kO.cons{l:List Tk}(h:kO l):∃t r,l=t::r:=by
 obtain⟨r,e,h,_⟩:=h;cases r with
 |nil=>exact⟨_,_,h⟩
 |cons a r=>exact⟨_,_,h⟩
def Nx(l l':List Tk):Prop:=kO l'/\l'.length<l.length
theorem yG{t:Tk}(h:bj t≠[]):¬t.w=0:=by intro e;apply h;simp[bj,e]
theorem fI{m:List UInt8}{l:List Tk}(h:kO l)(hm:m≠[]):((cq m l).1=true->Nx l (cq m l).2)/\((cq m l).1=false->(cq m l).2=l):=by
 obtain⟨t,r,rfl⟩:=h.cons;simp only[cq,vo];by_cases e:bj t=m
 ·simp only[e,if_true]
  exact⟨fun _=>⟨h.tail (yG (by rw[e];exact hm)),by simp⟩,fun h=>by cases h⟩
 simp[e]
theorem bU{m:List UInt8}{l l':List Tk}(h:kO l)(hm:m≠[])(e:dc m l=.inr l'):Nx l l':=by
 obtain⟨t,r,rfl⟩:=h.cons;simp only[dc,pl]at e;by_cases k:bj t=m
 ·simp only[k,if_true,Sum.inr.injEq]at e
  subst e;exact⟨h.tail (yG (by rw[k];exact hm)),by simp⟩
 simp[k]at e
theorem jk{ns:List (List UInt8)}{l:List Tk}{x:List UInt8×List Tk}(h:kO l)(e:go ns l=.inr x):Nx l x.2:=by
 obtain⟨t,r,rfl⟩:=h.cons;simp only[go,jB]at e
 split at e
 ·rename_i k
  cases e;exact⟨h.tail (by rcases k.1 with k|k<;>rw[k]<;>decide),by simp⟩
 cases e
theorem Nx.trans{a b c:List Tk}(h:Nx a b)(k:Nx b c):Nx a c:=⟨k.1,by have:=h.2;have:=k.2;omega⟩
def Gd{α:Type}(S:List Tk->Sum Int (α×List Tk)):Prop:=∀l x,kO l->S l=.inr x->Nx l x.2
theorem yS{α:Type}{S:List Tk->Sum Int (α×List Tk)}(hS:Gd S):∀(g:Nat) (acc:List α) (l:List Tk) (y:List α×List Tk),kO l->gM S g acc l=.inr y->kO y.2/\y.2.length<=l.length
 |0,_,_,_,_,e=>by cases e
 |g+1,acc,l,y,h,e=>by
  have hn:=fI (m:=[59]) h (by simp);unfold gM at e
  split at e
  ·rename_i k
   have n1:=hn.1 k
   split at e
   ·cases e
   rename_i x ex;have n2:=hS _ _ n1.1 ex;have:=yS hS g _ _ _ n2.1 e;exact⟨this.1,by have:=n1.2;have:=n2.2;omega⟩
  rename_i k;cases e;have k':(cq [59] l).1=false:=by simpa using k
  simp only[hn.2 k'];exact⟨h,Nat.le_refl _⟩
theorem sq{m:Nat}{S:List Tk->Sum Int (ET m×List Tk)}(hS:Gd S):Gd (jH S):=by
 intro l x h e;unfold jH at e
 split at e
 ·cases e
 rename_i y ey;have n1:=hS _ _ h ey
 split at e
 ·cases e
 rename_i z ez;cases e;have n2:=yS hS _ _ _ _ n1.1 ez;exact⟨n2.1,by have:=n1.2;have:=n2.2;simp only;omega⟩
theorem Jj{α:Type}{m:List UInt8}(hm:m≠[]){I:List Tk->Sum Int (α×List Tk)}(hI:Gd I):∀(g:Nat) (ns:List (List UInt8)) (xs:List α) (l:List Tk) (y:List (List UInt8)×List α×List Tk),kO l->oi m I g ns xs l=.inr y->Nx l y.2.2
 |0,_,_,_,_,_,e=>by cases e
 |g+1,ns,xs,l,y,h,e=>by
  unfold oi at e
  split at e
  ·cases e
  rename_i s es;have n1:=jk h es
  split at e
  ·cases e
  rename_i l2 e2;have n2:=bU n1.1 hm e2
  split at e
  ·cases e
  rename_i x ex;have n3:=hI _ _ n2.1 ex;have hn:=fI (m:=[125]) n3.1 (by simp)
  split at e
  ·rename_i k
   cases e;exact((n1.trans n2).trans n3).trans (hn.1 k)
  rename_i k;have k':(cq [125] x.2).1=false:=by simpa using k
  rw[hn.2 k']at e
  split at e
  ·cases e
  rename_i l5 e5;have n5:=bU n3.1 (by simp) e5;exact(((n1.trans n2).trans n3).trans n5).trans (Jj hm hI g _ _ _ _ n5.1 e)
theorem uO{α:Type}{m:List UInt8}(hm:m≠[]){I:List Tk->Sum Int (α×List Tk)}(hI:Gd I){l:List Tk}{y:List (List UInt8)×List α×List Tk}(h:kO l)(e:dK m I l=.inr y):Nx l y.2.2:=by
 have hn:=fI (m:=[125]) h (by simp);unfold dK at e
 split at e
 ·rename_i k
  cases e;exact hn.1 k
 rename_i k;have k':(cq [125] l).1=false:=by simpa using k
 rw[hn.2 k']at e;exact Jj hm hI _ _ _ _ _ h e
theorem JT{m:Nat}{M:List Tk->Sum Int (ET m×List Tk)}(hM:Gd M)(op:Int):Gd (vT M op):=by
 intro l x h e;unfold vT at e
 split at e
 ·cases e
 rename_i y ey;cases e;exact uO (by simp) hM h ey
theorem JP{α:Type}{M:List Tk->Sum Int (α×List Tk)}(hM:Gd M){k:List UInt8}(hk:k≠[]):Gd (vB M k):=by
 intro l x h e;unfold vB at e
 split at e
 ·cases e
 rename_i y ey;have n1:=hM _ _ h ey
 split at e
 ·cases e
 rename_i l' e';cases e;exact n1.trans (bU n1.1 hk e')
theorem JN:Gd qS:=by
 intro l x h e;obtain⟨t,r,rfl⟩:=h.cons;have hw:¬t.w=0:=by intro h0;simp[qS,h0,bj]at e
 simp only[qS]at e
 repeat' split at e
 all_goals first|(cases e;exact⟨h.tail hw,by simp⟩)|cases e
theorem JJ{m:Nat}(op:Int):Gd (Ci (m:=m) op):=by
 intro l x h e;unfold Ci at e
 split at e
 ·cases e
 rename_i s es;cases e;exact jk h es
theorem Nx.from{t:Tk}{r l:List Tk}(h:Nx r l):Nx (t::r) l:=⟨h.1,by have:=h.2;simp;omega⟩
theorem GF{m:Nat}{M:List Tk->Sum Int (ET m×List Tk)}(hM:Gd M):Gd (qB M):=by
 intro l x h e;obtain⟨t,r,rfl⟩:=h.cons;have hw:¬t.w=0:=by intro h0;simp[qB,h0,bj,Dq]at e
 have hr:=h.tail hw;simp only[qB]at e
 split at e
 ·split at e
  ·cases e
  rename_i y ey;cases e;exact(JP hM (by simp) _ _ hr ey).from
 split at e
 ·split at e
  ·cases e
  rename_i y ey;cases e;exact(JP hM (by simp) _ _ hr ey).from
 split at e
 ·exact(JJ 2 _ _ hr e).from
 split at e
 ·exact(JJ 5 _ _ hr e).from
 split at e
 ·exact(JT hM 3 _ _ hr e).from
 split at e
 ·split at e
  ·cases e
  rename_i l1 e1;have n1:=bU hr (by simp) e1;exact(n1.trans (JT hM 6 _ _ n1.1 e)).from
 split at e
 ·split at e
  ·cases e
  rename_i v ev;cases e;exact(JN _ _ hr ev).from
 split at e
 ·cases e
  exact⟨hr,by simp⟩
 cases e
theorem kc:∀f,Gd (BO f)
 |0=>fun _ _ _ e=>by cases e
 |f+1=>GF (sq (kc f))
def plC:Array Value:=#[.string ⟨#[]⟩,.string ⟨#[105,100]⟩,.string ⟨#[]⟩,.string ⟨#[]⟩,.string ⟨#[]⟩,.string ⟨#[]⟩,.string ⟨#[]⟩,.string ⟨#[]⟩,.string ⟨#[116,111,116,101,120,116]⟩,.string ⟨#[116,111,110,117,109]⟩,.string ⟨#[115,117,109]⟩,.string ⟨#[99,111,117,110,116]⟩]
def FS(j:Nat):List UInt8:=if j=1 then [105,100] else if j=8 then [116,111,116,101,120,116] else if j=9 then [116,111,110,117,109] else if j=10 then [115,117,109] else if j=11 then [99,111,117,110,116] else []
def ptC:Array Value:=#[.string ⟨#[]⟩,.string ⟨#[97,110,121]⟩,.string ⟨#[110,117,108,108]⟩,.string ⟨#[98,111,111,108]⟩,.string ⟨#[110,117,109]⟩,.string ⟨#[105,110,116]⟩,.string ⟨#[102,108,111,97,116]⟩,.string ⟨#[116,101,120,116]⟩,.string ⟨#[98,121,116,101,115]⟩]
def Gp(w:World):Prop:=(∃t fr,w.heap[1]?=some (.cells plC t fr))/\∃t fr,w.heap[2]?=some (.cells ptC t fr)
theorem Gp.lt{w:World}(g:Gp w):1<w.heap.size:=by obtain⟨⟨t,fr,h⟩,_⟩:=g;exact(Array.getElem?_eq_some_iff.1 h).1
theorem Gp.below{w W:World}(g:Gp w)(h:Below w.heap.size w W):Gp W:=by obtain⟨⟨t,fr,hc⟩,t2,fr2,br⟩:=g;exact⟨⟨t,fr,(h.block _ (Array.getElem?_eq_some_iff.1 hc).1).trans hc⟩,t2,fr2,(h.block _ (Array.getElem?_eq_some_iff.1 br).1).trans br⟩
theorem Gp.fb{w W:World}{B:Nat}(g:Gp w)(h:FB B w W)(hB:15<=B):Gp W:=by obtain⟨⟨t,fr,hc⟩,t2,fr2,br⟩:=g;exact⟨⟨t,fr,(h.blk _ (Array.getElem?_eq_some_iff.1 hc).1 (by omega)).trans hc⟩,t2,fr2,(h.blk _ (Array.getElem?_eq_some_iff.1 br).1 (by omega)).trans br⟩
theorem OO(j:Nat)(hj:j<12)(w:World):(Instr.index 104 (.agg plC) (.int .i64 j)).run prog w=.ok (.string (aj (FS j))) w:=by
 match j,hj with
 |0,_=>exact(show(Instr.index 104 (.agg plC) (.int .i64 0)).run prog w=.ok (.string ⟨#[]⟩) w by kernel_rfl)
 |1,_=>exact(show(Instr.index 104 (.agg plC) (.int .i64 1)).run prog w=.ok (.string ⟨#[105,100]⟩) w by kernel_rfl)
 |2,_=>exact(show(Instr.index 104 (.agg plC) (.int .i64 2)).run prog w=.ok (.string ⟨#[]⟩) w by kernel_rfl)
 |3,_=>exact(show(Instr.index 104 (.agg plC) (.int .i64 3)).run prog w=.ok (.string ⟨#[]⟩) w by kernel_rfl)
 |4,_=>exact(show(Instr.index 104 (.agg plC) (.int .i64 4)).run prog w=.ok (.string ⟨#[]⟩) w by kernel_rfl)
 |5,_=>exact(show(Instr.index 104 (.agg plC) (.int .i64 5)).run prog w=.ok (.string ⟨#[]⟩) w by kernel_rfl)
 |6,_=>exact(show(Instr.index 104 (.agg plC) (.int .i64 6)).run prog w=.ok (.string ⟨#[]⟩) w by kernel_rfl)
 |7,_=>exact(show(Instr.index 104 (.agg plC) (.int .i64 7)).run prog w=.ok (.string ⟨#[]⟩) w by kernel_rfl)
 |8,_=>exact(show(Instr.index 104 (.agg plC) (.int .i64 8)).run prog w=.ok (.string ⟨#[116,111,116,101,120,116]⟩) w by kernel_rfl)
 |9,_=>exact(show(Instr.index 104 (.agg plC) (.int .i64 9)).run prog w=.ok (.string ⟨#[116,111,110,117,109]⟩) w by kernel_rfl)
 |10,_=>exact(show(Instr.index 104 (.agg plC) (.int .i64 10)).run prog w=.ok (.string ⟨#[115,117,109]⟩) w by kernel_rfl)
 |11,_=>exact(show(Instr.index 104 (.agg plC) (.int .i64 11)).run prog w=.ok (.string ⟨#[99,111,117,110,116]⟩) w by kernel_rfl)
def zs:Sl:=⟨.slice none 0 0,.slice none 0 0,.slice none 0 0,.slice none 0 0⟩
structure Ex(W:World)(i:Nat)(h:Eh)(q:Sl):Prop where
 at_:W.heap[i]?=some (.cells (ecl h q) 33 (0,0))
theorem Ex.lt{W:World}{i:Nat}{h:Eh}{q:Sl}(k:Ex W i h q):i<W.heap.size:=(Array.getElem?_eq_some_iff.1 k.at_).1
theorem Ex.below{W W1:World}{i:Nat}{h:Eh}{q:Sl}(k:Ex W i h q)(hb:Below W.heap.size W W1):Ex W1 i h q:=⟨(hb.block _ k.lt).trans k.at_⟩
theorem Ex.fb{W W1:World}{i B:Nat}{h:Eh}{q:Sl}(k:Ex W i h q)(hb:FB B W W1)(hn:i≠B):Ex W1 i h q:=⟨(hb.blk _ k.lt hn).trans k.at_⟩
theorem Ex.cell{W:World}{i:Nat}{h:Eh}{q:Sl}(k:Ex W i h q)(j:Nat):W.cell? ⟨i,j,none⟩=(ecl h q)[j]?:=by unfold World.cell?;rw[k.at_];rfl
theorem Ex.frz{W:World}{i:Nat}{h:Eh}{q:Sl}(k:Ex W i h q)(j:Nat):W.frozen? ⟨i,j,none⟩=false:=by have:=k.at_;simp[World.frozen?,this]
theorem Ex.cells{W:World}{i:Nat}{h:Eh}{q:Sl}(k:Ex W i h q):W.cell? ⟨i,0,none⟩=some (.int .i64 h.op)/\W.cell? ⟨i,1,none⟩=some (.string h.name)/\W.cell? ⟨i,2,none⟩=some q.ns/\W.cell? ⟨i,3,none⟩=some q.ls/\W.cell? ⟨i,4,none⟩=some (.int .i64 (aI h.vn h.val).kind)/\W.cell? ⟨i,5,none⟩=some (.bool (aI h.vn h.val).flag)/\W.cell? ⟨i,6,none⟩=some (.bool (aI h.vn h.val).neg)/\W.cell? ⟨i,7,none⟩=some (.string (aI h.vn h.val).dig)/\W.cell? ⟨i,8,none⟩=some (.int .i64 (aI h.vn h.val).exp)/\W.cell? ⟨i,9,none⟩=some (.int .u64 (aI h.vn h.val).bits)/\W.cell? ⟨i,10,none⟩=some (.string (aI h.vn h.val).text)/\W.cell? ⟨i,11,none⟩=some q.vs/\W.cell? ⟨i,12,none⟩=some q.vl :=
 ⟨k.cell 0,k.cell 1,k.cell 2,k.cell 3,k.cell 4,k.cell 5,k.cell 6,k.cell 7,k.cell 8,k.cell 9,k.cell 10,k.cell 11,k.cell 12⟩
theorem Ex.range{W:World}{i:Nat}{h:Eh}{q:Sl}(k:Ex W i h q):W.rangeAt i 0 (ecl h q).toList:=by intro j v hj;rw[Nat.zero_add,k.cell j,<-hj,Array.getElem?_toList]
def ze:Eh:=lf 0
theorem jY(w:World):Ex (w.alloc (.cells #[.int .i64 0,.string ⟨#[]⟩,.slice none 0 0,.slice none 0 0,.int .i64 0,.bool false,.bool false,.string ⟨#[]⟩,.int .i64 0,.int .u64 0,.string ⟨#[]⟩,.slice none 0 0,.slice none 0 0] 33)) w.heap.size ze zs:=⟨Array.getElem?_push_size⟩
theorem gh{s:ByteArray}(h:¬s=aR):¬s.toList=[]:=by intro e;apply h;refine ByteArray.ext (Array.toList_inj.1 ?_);rw[ByteArray.toList_eq]at e;exact e
theorem KC{o:List UInt8}{j:Nat}(hj:j<12)(h:FS j≠[])(e:FS j=o):Dq o=some (j:Int):=by
 subst e
 match j,hj with
 |0,_=>exact absurd rfl h
 |1,_=>rfl
 |2,_=>exact absurd rfl h
 |3,_=>exact absurd rfl h
 |4,_=>exact absurd rfl h
 |5,_=>exact absurd rfl h
 |6,_=>exact absurd rfl h
 |7,_=>exact absurd rfl h
 |8,_=>rfl
 |9,_=>rfl
 |10,_=>rfl
 |11,_=>rfl
theorem KD{o:List UInt8}(h:∀j,j<12->FS j≠[]->FS j≠o):Dq o=none:=by have h1:=h 1 (by omega) (by decide);have h8:=h 8 (by omega) (by decide);have h9:=h 9 (by omega) (by decide);have Ch:=h 10 (by omega) (by decide);have Mz:=h 11 (by omega) (by decide);simp only[FS]at h1 h8 h9 Ch Mz;unfold Dq;rw[if_neg (fun e=>h1 (by rw[e];rfl)),if_neg (fun e=>h8 (by rw[e];rfl)),if_neg (fun e=>h9 (by rw[e];rfl)),if_neg (fun e=>Ch (by rw[e];rfl)),if_neg (fun e=>Mz (by rw[e];rfl))]
def Ro(w:World)(o:Option Int)(p:Int)(e:Ending)(w':World):Prop:=Below w.heap.size w w'/\match o with
 |some op=>e=.returned (.agg (ecl (lf op) zs))
 |none=>e=.panicked (pw p)
theorem Tb.cell2{W:World}{i:Nat}{t:Tk}(h:W.heap[i]?=some (.cells #[.int .i64 t.w,.string (aj t.s),.int .i64 t.p] 88 (0,0))):W.cell? ⟨i,0,none⟩=some (.int .i64 t.w)/\W.cell? ⟨i,1,none⟩=some (.string (aj t.s))/\W.cell? ⟨i,2,none⟩=some (.int .i64 t.p):=by refine⟨?_,?_,?_⟩<;>(unfold World.cell?;rw[h];rfl)
def Tb(W:World)(i:Nat)(t:Tk):Prop:=W.heap[i]?=some (.cells #[.int .i64 t.w,.string (aj t.s),.int .i64 t.p] 88 (0,0))
theorem Tb.lt{W:World}{i:Nat}{t:Tk}(k:Tb W i t):i<W.heap.size:=(Array.getElem?_eq_some_iff.1 k).1
theorem Tb.below{W W1:World}{i:Nat}{t:Tk}(k:Tb W i t)(hb:Below W.heap.size W W1):Tb W1 i t:=(hb.block _ k.lt).trans k
theorem Tb.fb{W W1:World}{i B:Nat}{t:Tk}(k:Tb W i t)(hb:FB B W W1)(hn:i≠B):Tb W1 i t:=(hb.blk _ k.lt hn).trans k
theorem lO(w:World)(t:Tk):Tb (w.alloc (.cells #[.int .i64 t.w,.string (aj t.s),.int .i64 t.p] 88)) w.heap.size t:=Array.getElem?_push_size
theorem qE(t:Tk)(w:World)(g:Gp w):Calls prog 120 #[dO t] w fun e w'=>Ro w (Dq (bj t)) t.p e w':=by
 have hg:=g.lt;obtain⟨⟨tt,fr,hc⟩,_⟩:=g;have bB:∀o o',((w.alloc o).alloc o').heap[1]?=some (.cells plC tt fr):=fun o o'=>by rw[(ab (ab af)).block _ hg];exact hc
 have db:=aa ((lO w t).below (ab (o:=.cells #[.int .i64 0,.string ⟨#[]⟩,.slice none 0 0,.slice none 0 0,.int .i64 0,.bool false,.bool false,.string ⟨#[]⟩,.int .i64 0,.int .u64 0,.string ⟨#[]⟩,.slice none 0 0,.slice none 0 0] 33) af));have fY:=aa (jY (w.alloc (.cells #[.int .i64 t.w,.string (aj t.s),.int .i64 t.p] 88)));rw[World.size_alloc]at fY;have ho:=aa (im t);obtain⟨R,hR⟩:∃R,Dq (bj t)=R:=⟨_,rfl⟩
 rw[hR];have HR:=aa hR;obtain⟨S,hS⟩:∃S,aj (bj t)=S:=⟨_,rfl⟩
 rw[hS]at ho;have HS:=aa hS;unfold dO at ho ⊢;clear hg hc hR hS;go_enter func120,ntmps120;go_wp2_with(refine wpList_load_row rfl 104 _ rfl 1 rfl tt plC fr _ (bB _ _) Tryz.underlying104 rfl (by kernel_rfl) ?_)
 clear bB;go_loopw [3,4,6] (fun _ _ i w'=>∃j:Nat,j<=12/\i=.int .i64 j/\Hid ((∀i:Nat,i<j->FS i≠[]->FS i≠bj t)/\Below w.heap.size w w'/\Tb w' w.heap.size t/\Ex w' (w.heap.size+1) ze zs)) (fun _ _ i _=>(12-intOf i).toNat)
 case atStart=>exact⟨0,by omega,rfl,(fun i h=>by omega),ab (ab af),db.out,fY.out⟩
 case round=>
  clear fY db;obtain⟨j,hj,rfl,H⟩:=hrel;obtain⟨hn,hb,ht,hx⟩:=H.out;have Hn:=aa hn;have Hb:=aa hb;have Ht:=aa ht;have Hx:=aa hx;obtain⟨t0,t1,t2⟩:=Tb.cell2 ht;clear H hn hb ht hx;by_cases Mb:j<12
  ·have Gj:(j:Int)<12:=by omega
   have zt:=OO j Mb;by_cases hw:FS j=[]
   ·rw[hw]at zt
    have SZ:∀w:World,(Instr.index 104 (.agg plC) (.int .i64 j)).run prog w=.ok (.string ⟨#[]⟩) w:=zt;have HW:=aa hw;clear zt hw;go_wp2_with fail
    refine⟨⟨j+1,by omega,by go_num,?_,Hb.out,Ht.out,Hx.out⟩,by simp[intOf];omega⟩;intro i hi h1 h2;by_cases e:i=j
    ·subst e;exact h1 HW.out
    exact Hn.out i (by omega) h1 h2
   obtain⟨U,hU⟩:∃U,aj (FS j)=U:=⟨_,rfl⟩
   rw[hU]at zt;have Tv:=gh (fun e:U=aR=>hw (by have:=co (hU.trans (show U=aj []from e));exact this));have WU:U.toList.isEmpty=false:=by
    cases hq:U.toList with
    |nil=>exact absurd hq Tv
    |cons a l=>rfl
   have HW:=aa hw;have HU:=aa hU;clear hw hU;by_cases he:U=S
   ·subst he
    have Sv:Hid (R=some (j:Int)):=by show _=_;rw[<-HR.out];exact KC Mb HW.out (co (HU.out.trans HS.out.symm))
    have fin:=aa (show ∀w',Below w.heap.size w w'->Ro w R t.p (.returned (.agg (ecl (lf j) zs))) w' from fun w' h=>by rw[Sv.out];exact⟨h,rfl⟩);have iW:=fun w1 (ai:Below wr.heap.size wr w1)=>(Hx.out.below ai).cells;have Vs:=fun w1 (ai:Below wr.heap.size wr w1)=>(Hx.out.below ai).frz;go_wp2_with(go_at_call 95;refine(ho.out _).mono ?_;rintro e w1 ⟨rfl,ai⟩;have kf:=Vs _ ai;obtain⟨k0,k1,k2,k3,k4,k5,k6,k7,k8,k9,k10,k11,k12⟩:=iW _ ai)
    refine bodyPost_ret (v:=.agg (ecl (lf j) zs)) (by simp[results,Tryz.results120,go_sem,ecl,lf,zs,vz,vH,aI,aR, *]) rfl (fin.out _ ?_)
    (iterate 13(refine Below.setCell ?_ (by show w.heap.size<=w.heap.size+1;omega) _))
    exact ac Hb.out ai
   have aQ:=ud he;have HE:=aa he;clear he;go_wp2_with(go_at_call 95;refine(ho.out _).mono ?_;rintro e w1 ⟨rfl,ai⟩)
   refine⟨⟨j+1,by omega,by go_num,?_,ac Hb.out ai,Ht.out.below ai,Hx.out.below ai⟩,by simp[intOf];omega⟩;intro i hi h1 h2;by_cases e:i=j
   ·subst e;exact HE.out (by rw[<-HU.out,<-HS.out,h2])
   exact Hn.out i (by omega) h1 h2
  have Gj:¬(j:Int)<12:=by omega
  have mv:R=none:=by rw[<-HR.out];exact KD fun i hi=>Hn.out i (by omega)
  have fin:=aa (show ∀w',Below w.heap.size w w'->Ro w R t.p (.panicked (pw t.p)) w' from fun w' h=>by rw[mv];exact⟨h,rfl⟩);clear mv;go_wp2_with fail
  exact⟨rfl,fin.out _ Hb.out⟩
def zS(v:VT 1):Array Value:=aP v.1 (.slice none 0 0) (.slice none 0 0)
def Rp(B:Nat)(w:World)(o:Sum Int (VT 1×List Tk))(e:Ending)(w':World):Prop:=FB B w w'/\match o with
 | .inl p=>e=.panicked (pw p)
 | .inr x=>e=.returned (.agg (zS x.1))/\TQ w' B x.2
def Vz(W:World)(i:Nat):Prop:=W.heap[i]?=some (.cells #[.int .i64 0,.bool false,.bool false,.string ⟨#[]⟩,.int .i64 0,.int .u64 0,.string ⟨#[]⟩,.slice none 0 0,.slice none 0 0] 31 (0,0))
theorem Vz.lt{W:World}{i:Nat}(k:Vz W i):i<W.heap.size:=(Array.getElem?_eq_some_iff.1 k).1
theorem Vz.below{W W1:World}{i:Nat}(k:Vz W i)(hb:Below W.heap.size W W1):Vz W1 i:=(hb.block _ k.lt).trans k
theorem Vz.fb{W W1:World}{i B:Nat}(k:Vz W i)(hb:FB B W W1)(hn:i≠B):Vz W1 i:=(hb.blk _ k.lt hn).trans k
theorem JX(w:World):Vz (w.alloc (.cells #[.int .i64 0,.bool false,.bool false,.string ⟨#[]⟩,.int .i64 0,.int .u64 0,.string ⟨#[]⟩,.slice none 0 0,.slice none 0 0] 31)) w.heap.size:=Array.getElem?_push_size
theorem Vz.cells{W:World}{i:Nat}(k:Vz W i):W.cell? ⟨i,0,none⟩=some (.int .i64 0)/\W.cell? ⟨i,1,none⟩=some (.bool false)/\W.cell? ⟨i,2,none⟩=some (.bool false)/\W.cell? ⟨i,3,none⟩=some (.string ⟨#[]⟩)/\W.cell? ⟨i,4,none⟩=some (.int .i64 0)/\W.cell? ⟨i,5,none⟩=some (.int .u64 0)/\W.cell? ⟨i,6,none⟩=some (.string ⟨#[]⟩)/\W.cell? ⟨i,7,none⟩=some (.slice none 0 0)/\W.cell? ⟨i,8,none⟩=some (.slice none 0 0):=by unfold Vz at k;refine⟨?_,?_,?_,?_,?_,?_,?_,?_,?_⟩<;>(unfold World.cell?;rw[k];rfl)
theorem Vz.frz{W:World}{i:Nat}(k:Vz W i)(j:Nat):W.frozen? ⟨i,j,none⟩=false:=by unfold Vz at k;simp[World.frozen?,k]
theorem fE{S:ByteArray}{m:List UInt8}(h:¬S=aj m):(S.toList==m)=false:=by rw[beq_eq_false_iff_ne];intro e;apply h;rw[ByteArray.toList_eq]at e;rw[<-e];exact ByteArray.ext (by simp[aj])
theorem Bt(hP:aW){w:World}{B:Nat}{t:Tk}{l:List Tk}(h:TQ w B (t::l))(hs:t.s.length<=70000):Calls prog 119 #[lv B] w fun e w'=>Rp B w (qS (t::l)) e w':=by
 have H:=aa h;have jQ:=h.sz;clear h;have hx:Hid (∀w' (hb:Below w.heap.size w w') ,Calls prog 115 #[.pointer (some ⟨B,0,none⟩)] w' fun e w''=>e=.returned (dO t)/\TQ w'' B l/\FB B w' w''):=fun w' hb=>iN (H.out.below hb);have nd:=aa (JX (w.alloc (.cells #[.func (.func 114) #[] #[.pointer (some ⟨B,0,none⟩)],.func (.func 115) #[] #[.pointer (some ⟨B,0,none⟩)]] 83)));rw[World.size_alloc]at nd;have ho:=aa (im t);unfold dO at hx ho;unfold lv;have aQ:w.heap.size+1≠B:=by omega
 have fin:Hid (∀(v:VT 1) (w':World),TQ w' B l->FB B w w'->qS (t::l)=.inr (v,l)->Rp B w (qS (t::l)) (.returned (.agg (zS v))) w'):=fun v w' a b e=>by rw[e];exact⟨b,rfl,a⟩
 have bad:Hid (∀(w':World),FB B w w'->qS (t::l)=.inl t.p->Rp B w (qS (t::l)) (.panicked (pw t.p)) w'):=fun w' b e=>by rw[e];exact⟨b,rfl⟩
 obtain⟨R,hR⟩:∃R,qS (t::l)=R:=⟨_,rfl⟩
 have HR:=aa hR;rw[hR]at fin bad ⊢;clear hR;by_cases h2:t.w=2
 ·have e2:Hid (R=.inr (vH 5 false false aR 0 (aj t.s),l)):=by show _=_;rw[<-HR.out];simp[qS,h2]
  rw[h2]at hx;clear h2;go_enter func119,ntmps119;go_wp2_with(first|(go_at_call 115;refine(hx.out _ (ab (ab af))).mono ?_;rintro e w3 ⟨rfl,dC,ar⟩;obtain⟨k0,k1,k2,k3,k4,k5,k6,k7,k8⟩:=(nd.out.fb ar aQ).cells;have kf:=(nd.out.fb ar aQ).frz;have kl:=(nd.out.fb ar aQ).lt))
  refine bodyPost_ret (v:=.agg (zS (vH 5 false false aR 0 (aj t.s)))) (by simp[results,Tryz.results119,go_sem,zS,aP,vH,aR, *]) rfl (fin.out _ _ ?_ ?_ e2.out)
  ·refine TQ.al ?_
   (iterate 9(refine TQ.set ?_ (by omega)))
   exact dC
  refine FB.al ?_
  (iterate 9(refine FB.set ?_ (by omega)))
  exact((FB.of (ab (ab af))).trans ar)
 have b2:(t.w==2)=false:=by simp[h2]
 by_cases h3:t.w=3
 ·have e2:Hid (R=.inr (vH 3 false (cx t.s).1 (cx t.s).2.1 (cx t.s).2.2.1 aR,l)):=by show _=_;rw[<-HR.out];simp[qS,h3]
  rw[h3]at hx;have hp:=aa (fun w'=>hP (aj t.s) w' (by rw[ag];omega));rw[ah]at hp;unfold ji at hp;obtain⟨⟨p1,p2,p3,p4⟩,Pw⟩:∃q,cx t.s=q:=⟨_,rfl⟩
  rw[Pw]at e2 hp;clear h2 h3 b2 Pw;go_enter func119,ntmps119;go_wp2_with(first|(go_at_call 115;refine(hx.out _ (ab (ab af))).mono ?_;rintro e w3 ⟨rfl,dC,ar⟩;obtain⟨k0,k1,k2,k3,k4,k5,k6,k7,k8⟩:=(nd.out.fb ar aQ).cells;have kf:=(nd.out.fb ar aQ).frz;have kl:=(nd.out.fb ar aQ).lt)|(go_at_call 155;refine(hp.out _).mono ?_;rintro e w4 ⟨rfl,aO⟩;obtain⟨k0,k1,k2,k3,k4,k5,k6,k7,k8⟩:=(((nd.out.fb ar aQ).below (ab af)).below aO).cells;have kf:=(((nd.out.fb ar aQ).below (ab af)).below aO).frz;have kl:=(((nd.out.fb ar aQ).below (ab af)).below aO).lt))
  refine bodyPost_ret (v:=.agg (zS (vH 3 false p1 p2 p3 aR))) (by simp[results,Tryz.results119,go_sem,zS,aP,vH,aR, *]) rfl (fin.out _ _ ?_ ?_ e2.out)
  ·refine TQ.al ?_
   (iterate 9(refine TQ.set ?_ (by omega)))
   exact(dC.al.below aO)
  refine FB.al ?_
  (iterate 9(refine FB.set ?_ (by omega)))
  exact((FB.of (ab (ab af))).trans ar).al.then aO
 ·have b3:(t.w==3)=false:=by simp[h3]
  have pZ:qS (t::l)=if bj t=[110,117,108,108] then .inr (vH 1 false false aR 0 aR,l)
 else if bj t=[116,114,117,101] then .inr (vH 2 true false aR 0 aR,l)
 else if bj t=[102,97,108,115,101] then .inr (vH 2 false false aR 0 aR,l)
 else .inl t.p:=by simp only[qS];rw[if_neg h2,if_neg h3]
  rw[HR.out]at pZ;have hsame:∀s,bj t=s->s≠[]->t.s=s:=by
   intro s e hn;unfold bj at e
   split at e
   ·exact e
   exact absurd e.symm hn
  clear HR h2 h3 hs hP;by_cases n1:bj t=[110,117,108,108]
  ·have e2:Hid (R=.inr (vH 1 false false aR 0 aR,l)):=by show _=_;rw[pZ,if_pos n1]
   rw[n1]at ho;have qr:Hid (∀w,Calls prog 95 #[.agg #[.int .i64 t.w,.string (aj t.s),.int .i64 t.p]] w fun e w'=>e=.returned (.string ⟨#[110,117,108,108]⟩)/\Below w.heap.size w w'):=ho;clear ho pZ n1 hsame;go_enter func119,ntmps119;go_wp2_with(first|(go_at_call 115;refine(hx.out _ (ab (ab af))).mono ?_;rintro e w3 ⟨rfl,dC,ar⟩)|(go_at_call 95;refine(qr.out _).mono ?_;rintro e w4 ⟨rfl,aO⟩;obtain⟨k0,k1,k2,k3,k4,k5,k6,k7,k8⟩:=(((nd.out.fb ar aQ).below (ab af)).below aO).cells;have kf:=(((nd.out.fb ar aQ).below (ab af)).below aO).frz;have kl:=(((nd.out.fb ar aQ).below (ab af)).below aO).lt;have kt:=Tb.cell2 ((lO w3 t).below aO)))
   refine bodyPost_ret (v:=.agg (zS (vH 1 false false aR 0 aR))) (by simp[results,Tryz.results119,go_sem,zS,aP,vH,aR, *]) rfl (fin.out _ _ ?_ ?_ e2.out)
   ·(iterate 9(refine TQ.set ?_ (by omega)))
    exact(dC.al.below aO)
   (iterate 9(refine FB.set ?_ (by omega)))
   exact((FB.of (ab (ab af))).trans ar).al.then aO
  rw[if_neg n1]at pZ;by_cases n2:bj t=[116,114,117,101]
  ·have e2:Hid (R=.inr (vH 2 true false aR 0 aR,l)):=by show _=_;rw[pZ,if_pos n2]
   have lG:=hsame _ n2 (by simp);rw[n2]at ho;rw[lG]at ho hx;have qr:Hid (∀w,Calls prog 95 #[.agg #[.int .i64 t.w,.string ⟨#[116,114,117,101]⟩,.int .i64 t.p]] w fun e w'=>e=.returned (.string ⟨#[116,114,117,101]⟩)/\Below w.heap.size w w'):=ho;have dx:Hid (∀w' (hb:Below w.heap.size w w') ,Calls prog 115 #[.pointer (some ⟨B,0,none⟩)] w' fun e w''=>e=.returned (.agg #[.int .i64 t.w,.string ⟨#[116,114,117,101]⟩,.int .i64 t.p])/\TQ w'' B l/\FB B w' w''):=hx;have ktt:Hid (∀(w3 w4:World),Below (w3.heap.size+1) (w3.alloc (.cells #[.int .i64 t.w,.string ⟨#[116,114,117,101]⟩,.int .i64 t.p] 88)) w4->w4.cell? ⟨w3.heap.size,1,none⟩=some (.string ⟨#[116,114,117,101]⟩)):=by
    intro w3 w4 hb;have Nu:Below (w3.alloc (.cells #[.int .i64 t.w,.string ⟨#[116,114,117,101]⟩,.int .i64 t.p] 88)).heap.size (w3.alloc (.cells #[.int .i64 t.w,.string ⟨#[116,114,117,101]⟩,.int .i64 t.p] 88)) w4:=by rw[World.size_alloc];exact hb
    exact(Tb.cell2 ((lO w3 ⟨t.w,[116,114,117,101],t.p⟩).below Nu)).2.1
   clear ho hx pZ n1 n2 hsame;go_enter func119,ntmps119;go_wp2_with(first|(go_at_call 115;refine(dx.out _ (ab (ab af))).mono ?_;rintro e w3 ⟨rfl,dC,ar⟩)|(go_at_call 95;refine(qr.out _).mono ?_;rintro e w4 ⟨rfl,aO⟩;obtain⟨k0,k1,k2,k3,k4,k5,k6,k7,k8⟩:=(((nd.out.fb ar aQ).below (ab af)).below aO).cells;have kf:=(((nd.out.fb ar aQ).below (ab af)).below aO).frz;have kl:=(((nd.out.fb ar aQ).below (ab af)).below aO).lt;have kt:=ktt.out _ _ (by rw[World.size_alloc]at aO;exact aO)))
   refine bodyPost_ret (v:=.agg (zS (vH 2 true false aR 0 aR))) (by simp[results,Tryz.results119,go_sem,zS,aP,vH,aR, *]) rfl (fin.out _ _ ?_ ?_ e2.out)
   ·(iterate 9(refine TQ.set ?_ (by omega)))
    exact(dC.al.below aO)
   (iterate 9(refine FB.set ?_ (by omega)))
   exact((FB.of (ab (ab af))).trans ar).al.then aO
  rw[if_neg n2]at pZ;by_cases n3:bj t=[102,97,108,115,101]
  ·have e2:Hid (R=.inr (vH 2 false false aR 0 aR,l)):=by show _=_;rw[pZ,if_pos n3]
   have lG:=hsame _ n3 (by simp);rw[n3]at ho;rw[lG]at ho hx;have qr:Hid (∀w,Calls prog 95 #[.agg #[.int .i64 t.w,.string ⟨#[102,97,108,115,101]⟩,.int .i64 t.p]] w fun e w'=>e=.returned (.string ⟨#[102,97,108,115,101]⟩)/\Below w.heap.size w w'):=ho;have dx:Hid (∀w' (hb:Below w.heap.size w w') ,Calls prog 115 #[.pointer (some ⟨B,0,none⟩)] w' fun e w''=>e=.returned (.agg #[.int .i64 t.w,.string ⟨#[102,97,108,115,101]⟩,.int .i64 t.p])/\TQ w'' B l/\FB B w' w''):=hx;have ktt:Hid (∀(w3 w4:World),Below (w3.heap.size+1) (w3.alloc (.cells #[.int .i64 t.w,.string ⟨#[102,97,108,115,101]⟩,.int .i64 t.p] 88)) w4->w4.cell? ⟨w3.heap.size,1,none⟩=some (.string ⟨#[102,97,108,115,101]⟩)):=by
    intro w3 w4 hb;have Nu:Below (w3.alloc (.cells #[.int .i64 t.w,.string ⟨#[102,97,108,115,101]⟩,.int .i64 t.p] 88)).heap.size (w3.alloc (.cells #[.int .i64 t.w,.string ⟨#[102,97,108,115,101]⟩,.int .i64 t.p] 88)) w4:=by rw[World.size_alloc];exact hb
    exact(Tb.cell2 ((lO w3 ⟨t.w,[102,97,108,115,101],t.p⟩).below Nu)).2.1
   clear ho hx pZ n1 n2 n3 hsame;go_enter func119,ntmps119;go_wp2_with(first|(go_at_call 115;refine(dx.out _ (ab (ab af))).mono ?_;rintro e w3 ⟨rfl,dC,ar⟩)|(go_at_call 95;refine(qr.out _).mono ?_;rintro e w4 ⟨rfl,aO⟩;obtain⟨k0,k1,k2,k3,k4,k5,k6,k7,k8⟩:=(((nd.out.fb ar aQ).below (ab af)).below aO).cells;have kf:=(((nd.out.fb ar aQ).below (ab af)).below aO).frz;have kl:=(((nd.out.fb ar aQ).below (ab af)).below aO).lt;have kt:=ktt.out _ _ (by rw[World.size_alloc]at aO;exact aO)))
   refine bodyPost_ret (v:=.agg (zS (vH 2 false false aR 0 aR))) (by simp[results,Tryz.results119,go_sem,zS,aP,vH,aR, *]) rfl (fin.out _ _ ?_ ?_ e2.out)
   ·(iterate 9(refine TQ.set ?_ (by omega)))
    exact(dC.al.below aO)
   (iterate 9(refine FB.set ?_ (by omega)))
   exact((FB.of (ab (ab af))).trans ar).al.then aO
  rw[if_neg n3]at pZ;have e2:Hid (R=.inl t.p):=by show _=_;exact pZ
  obtain⟨S,hS⟩:∃S,aj (bj t)=S:=⟨_,rfl⟩
  rw[hS]at ho;have m1:=fE (m:=[110,117,108,108]) (fun h=>n1 (co (hS.trans h)));have m2:=fE (m:=[116,114,117,101]) (fun h=>n2 (co (hS.trans h)));have m3:=fE (m:=[102,97,108,115,101]) (fun h=>n3 (co (hS.trans h)));clear pZ n1 n2 n3 hsame hS;go_enter func119,ntmps119;go_wp2_with(first|(go_at_call 115;refine(hx.out _ (ab (ab af))).mono ?_;rintro e w3 ⟨rfl,dC,ar⟩)|(go_at_call 95;refine(ho.out _).mono ?_;rintro e w4 ⟨rfl,aO⟩;obtain⟨k0,k1,k2,k3,k4,k5,k6,k7,k8⟩:=(((nd.out.fb ar aQ).below (ab af)).below aO).cells;have kf:=(((nd.out.fb ar aQ).below (ab af)).below aO).frz;have kl:=(((nd.out.fb ar aQ).below (ab af)).below aO).lt;have kt:=Tb.cell2 ((lO w3 t).below aO)))
  exact⟨rfl,bad.out _ (((FB.of (ab (ab af))).trans ar).al.then aO) e2.out⟩
structure Lq(w:World)(B:Nat)(l:List Tk):Prop where
 tq:TQ w B l
 ok:kO l
 gp:Gp w
 lo:15<=B
theorem Lq.below{w W:World}{B:Nat}{l:List Tk}(h:Lq w B l)(hb:Below w.heap.size w W):Lq W B l:=⟨h.tq.below hb,h.ok,h.gp.below hb,h.lo⟩
theorem Lq.al{w:World}{B:Nat}{l:List Tk}{o:Obj}(h:Lq w B l):Lq (w.alloc o) B l:=h.below (ab af)
theorem Lq.fb{w W:World}{B:Nat}{l l':List Tk}(h:Lq w B l)(hb:FB B w W)(hq:TQ W B l')(hn:kO l'):Lq W B l':=⟨hq,hn,h.gp.fb hb h.lo,h.lo⟩
def PE(n B:Nat)(w:World)(o:Sum Int (ET n×List Tk))(e:Ending)(w':World):Prop:=FB B w w'/\match o with
 | .inl p=>e=.panicked (pw p)
 | .inr x=>∃q,e=.returned (.agg (ecl (ehd n x.1) q))/\KE n w' x.1 q w.heap.size w'.heap.size/\TQ w' B x.2
def vK(n F:Nat)(M:List Tk->Sum Int (ET n×List Tk))(f:Nat):Prop:=∀(w:World) (B:Nat) (l:List Tk),Lq w B l->l.length<=f->Calls prog F #[lv B] w fun e w'=>PE n B w (M l) e w'
theorem KE.fb{n B:Nat}{W W1:World}{x:ET n}{q:Sl}{s e:Nat}(h:KE n W x q s e)(hb:FB B W W1)(hB:B<s):KE n W1 x q s e:=h.move (by have:=h.2.1;have:=hb.size;omega) fun k a b=>hb.blk k (by have:=h.2.1;omega) (by omega)
theorem KE.below{n:Nat}{W W1:World}{x:ET n}{q:Sl}{s e:Nat}(h:KE n W x q s e)(hb:Below W.heap.size W W1):KE n W1 x q s e:=h.move (by have:=h.2.1;have:=hb.size;omega) fun k a b=>hb.block k (by have:=h.2.1;omega)
theorem KE.set{n i o:Nat}{W:World}{x:ET n}{q:Sl}{s e:Nat}{u:Value}(h:KE n W x q s e)(hi:i<s):KE n (W.setCell ⟨i,o,none⟩ u) x q s e:=h.move (by simp;exact h.2.1) fun k a b=>Below.heap_setCell _ _ _ _ (by show k≠i;omega)
theorem KE.al{n:Nat}{W:World}{x:ET n}{q:Sl}{s e:Nat}{o:Obj}(h:KE n W x q s e):KE n (W.alloc o) x q s e:=h.below (ab af)
theorem KE.fin{n:Nat}{W:World}{x:ET n}{q:Sl}{s e s':Nat}(h:KE n W x q s e)(hs:s'<=s):KE n W x q s' W.heap.size:=h.wide hs h.2.1 (Nat.le_refl _)
theorem bC(w:World)(h:Eh)(q:Sl):Ex (w.alloc (.cells (ecl h q) 33)) w.heap.size h q:=⟨Array.getElem?_push_size⟩
theorem PE.bad{n B:Nat}{w w':World}{R:Sum Int (ET n×List Tk)}{p:Int}(e:R=.inl p)(hb:FB B w w'):PE n B w R (.panicked (pw p)) w':=by rw[e];exact⟨hb,rfl⟩
theorem PE.good{n B:Nat}{w w':World}{R:Sum Int (ET n×List Tk)}{x:ET n×List Tk}{q:Sl}(e:R=.inr x)(hb:FB B w w')(hk:KE n w' x.1 q w.heap.size w'.heap.size)(ht:TQ w' B x.2):PE n B w R (.returned (.agg (ecl (ehd n x.1) q))) w':=by rw[e];exact⟨hb,q,rfl,hk,ht⟩
theorem qm{n f:Nat}{M:List Tk->Sum Int (ET n×List Tk)}(hM:vK n 26 M f)(hG:Gd M)(k:List UInt8){w:World}{B:Nat}{l:List Tk}(h:Lq w B l)(hl:l.length<=f):Calls prog 116 #[lv B,.string (aj k)] w fun e w'=>PE n B w (vB M k l) e w':=by
 have jQ:=h.tq.sz;have H:=aa h;have ZL:=aa (gO w B);have Z0:=aa (jY (w.alloc (.cells #[.func (.func 114) #[] #[.pointer (some ⟨B,0,none⟩)],.func (.func 115) #[] #[.pointer (some ⟨B,0,none⟩)]] 83)));have hm:Hid (∀w',Below w.heap.size w w'->Calls prog 26 #[lv B] w' fun e w''=>PE n B w' (M l) e w''):=fun w' hb=>hM w' B l (h.below hb) hl;rw[World.size_alloc]at Z0;obtain⟨R,hR⟩:∃R,vB M k l=R:=⟨_,rfl⟩
 rw[hR];have HR:=aa hR;have aQ:w.heap.size+1≠B:=by omega
 have dS:w.heap.size≠B:=by omega
 clear hR h hM;unfold lv at hm ⊢;rcases hx:M l with p|x
 ·rw[hx]at hm
  have e2:Hid (R=.inl p):=by show _=_;rw[<-HR.out];simp[vB,hx]
  clear HR hx;go_enter func116,ntmps116;go_wp2_with(first|(go_at_call 26;refine(hm.out _ (ab (ab af))).mono ?_;rintro e w3 ⟨ar,rfl⟩))
  exact⟨rfl,PE.bad e2.out ((FB.of (ab (ab af))).trans ar)⟩
 rw[hx]at hm;have jW:=hG l x H.out.ok hx;obtain⟨t,l2,bq⟩:=jW.1.cons;have hw:Hid (∀w',TQ w' B x.2->Calls prog 96 #[lv B,.string (aj k)] w' fun e w''=>WP B w' (dc k x.2) e w''):=by intro w' hq;rw[bq]at hq ⊢;exact tY k hq
 unfold lv at hw;have hd:Hid (∀w',Ex w' w.heap.size (ehd n x.1) zs->True):=fun _ _=>trivial;rcases hy:dc k x.2 with p|l'
 ·rw[hy]at hw
  have e2:Hid (R=.inl p):=by show _=_;rw[<-HR.out];simp[vB,hx,hy]
  clear HR hx hy jW bq hd;go_enter func116,ntmps116;go_wp2_with(first|(go_at_call 26;refine(hm.out _ (ab (ab af))).mono ?_;rintro e w3 ⟨ar,q,rfl,AV,dC⟩;have kL:=(((ZL.out.below (ab af)).fb ar dS)).cells;have kl:=(((ZL.out.below (ab af)).fb ar dS)).lt;obtain⟨a,m,c,a',m',c',a2,m2,c2,a3,m3,c3,hq⟩:=AV.rd.shape;subst hq;unfold ecl)|(go_at_call 96;refine(hw.out _ dC.al).mono ?_;rintro e w4 ⟨aO,rfl⟩))
  exact⟨rfl,PE.bad e2.out (((FB.of (ab (ab af))).trans ar).al.trans aO)⟩
 rw[hy]at hw;have e2:Hid (R=.inr (x.1,l')):=by show _=_;rw[<-HR.out];simp[vB,hx,hy]
 clear HR hx hy jW bq hd;go_enter func116,ntmps116;go_wp2_with(first|(go_at_call 26;refine(hm.out _ (ab (ab af))).mono ?_;rintro e w3 ⟨ar,q,rfl,AV,dC⟩;have kL:=(((ZL.out.below (ab af)).fb ar dS)).cells;have kl:=(((ZL.out.below (ab af)).fb ar dS)).lt;obtain⟨a,m,c,a',m',c',a2,m2,c2,a3,m3,c3,hq⟩:=AV.rd.shape;subst hq;unfold ecl)|(go_at_call 96;refine(hw.out _ dC.al).mono ?_;rintro e w4 ⟨aO,rfl,vd⟩;have zn:w3.heap.size≠B:=(by have:=dC.sz;omega);have kx:=((bC w3 (ehd n x.1) ⟨.slice a m c,.slice a' m' c',.slice a2 m2 c2,.slice a3 m3 c3⟩).fb aO zn).cells;have kz:=((((Z0.out.fb ar aQ).below (ab af)).fb aO aQ)).cells;have kf:=((((Z0.out.fb ar aQ).below (ab af)).fb aO aQ)).frz))
 refine bodyPost_ret (v:=.agg (ecl (ehd n x.1) ⟨.slice a m c,.slice a' m' c',.slice a2 m2 c2,.slice a3 m3 c3⟩)) (by simp[results,Tryz.results116,go_sem,ecl, *]) rfl (PE.good (x:=(x.1,l')) e2.out ?_ ?_ ?_)
 ·(iterate 13(refine FB.set ?_ (by omega)))
  exact((FB.of (ab (ab af))).trans ar).al.trans aO
 ·refine KE.fin (s:=w.heap.size+2) (e:=w3.heap.size) ?_ (by omega)
  (iterate 13(refine KE.set ?_ (by omega)))
  refine KE.fb (KE.al ?_) aO (by omega)
  simpa using AV
 (iterate 13(refine TQ.set ?_ (by omega)))
 exact vd
structure E2(n L:Nat)(W:World)(nv v:Value)(nms:List ByteArray)(l:List (ET n))(xs:List Value):Prop where
 nrow:nA W L nv nms
 row:W.ownsRow L 33 13 v l.length xs
 all:∀j (h:j<l.length),∃q s e,KE n W l[j] q s e/\L<=s/\(∀g,v.ownBlock=some g\/nv.ownBlock=some g->g<s\/e<=g)/\∀r u,(ecl (ehd n l[j]) q).toList[r]?=some u->xs[j*13+r]?=some u
theorem E2.er{n L:Nat}{W:World}{nv v:Value}{nms:List ByteArray}{l:List (ET n)}{xs:List Value}(h:E2 n L W nv v nms l xs):ER n L W v l:=⟨xs,h.row,fun j hj=>by obtain⟨q,s,e,a,b,c,d⟩:=h.all j hj;exact⟨q,s,e,a,b,fun g hg=>c g (Or.inl hg),d⟩⟩
theorem E2.nil(n L:Nat)(W:World):E2 n L W (.slice none 0 0) (.slice none 0 0) [] [] []:=⟨World.ownsRow_nil _ _ _ _,World.ownsRow_nil _ _ _ _,fun j h=>by simp at h⟩
theorem E2.keep{n L:Nat}{W W1:World}{nv v:Value}{nms:List ByteArray}{l:List (ET n)}{xs:List Value}(h:E2 n L W nv v nms l xs)(hz:W.heap.size<=W1.heap.size)(hb:∀k,L<=k->k<W.heap.size->W1.heap[k]?=W.heap[k]?):E2 n L W1 nv v nms l xs:=by have bm:=World.ownsRow.lt h.row;have LY:=World.ownsRow.lt h.nrow;refine⟨aX h.nrow fun g hg hl=>hb g (LY g hg).1 hl,aX h.row fun g hg hl=>hb g (bm g hg).1 hl,fun j hj=>?_⟩;obtain⟨q,s,e,k1,k2,k3,k4⟩:=h.all j hj;exact⟨q,s,e,k1.move (by have:=k1.2.1;omega) (fun k a b=>hb k (by omega) (by have:=k1.2.1;omega)),k2,k3,k4⟩
theorem E2.fb{n L B:Nat}{W W1:World}{nv v:Value}{nms:List ByteArray}{l:List (ET n)}{xs:List Value}(h:E2 n L W nv v nms l xs)(hb:FB B W W1)(hB:B<L):E2 n L W1 nv v nms l xs:=h.keep hb.size fun k a b=>hb.blk k b (by omega)
theorem E2.below{n L:Nat}{W W1:World}{nv v:Value}{nms:List ByteArray}{l:List (ET n)}{xs:List Value}(h:E2 n L W nv v nms l xs)(hb:Below W.heap.size W W1):E2 n L W1 nv v nms l xs:=h.keep hb.size fun k a b=>hb.block k b
theorem E2.al{n L:Nat}{W:World}{nv v:Value}{nms:List ByteArray}{l:List (ET n)}{xs:List Value}{o:Obj}(h:E2 n L W nv v nms l xs):E2 n L (W.alloc o) nv v nms l xs:=h.below (ab af)
theorem E2.lt{n L:Nat}{W:World}{nv v:Value}{nms:List ByteArray}{l:List (ET n)}{xs:List Value}(h:E2 n L W nv v nms l xs):∀g,v.ownBlock=some g\/nv.ownBlock=some g->L<=g/\g<W.heap.size:=by
 intro g hg;rcases hg with hg|hg
 ·exact World.ownsRow.lt h.row g hg
 exact World.ownsRow.lt h.nrow g hg
theorem E2.apart{n L:Nat}{W:World}{nv v:Value}{nms:List ByteArray}{l:List (ET n)}{xs:List Value}(h:E2 n L W nv v nms l xs):∀g,v.ownBlock=some g->nv.ownBlock=some g->False:=by
 intro g h1 h2;rcases h.row.2 with⟨rfl,e⟩|⟨g1,cap,cur,rfl,_,k2,_⟩
 ·cases h1
 rcases h.nrow.2 with⟨rfl,e⟩|⟨g2,cap,cur,rfl,_,k3,_⟩
 ·cases h2
 cases h1;cases h2;rw[k2]at k3;have:=Option.some.inj k3;injection this with _ e _
 exact absurd e (by decide)
theorem E2.name{n L N:Nat}{W w':World}{nv nv' v:Value}{nms:List ByteArray}{l:List (ET n)}{xs:List Value}{st:ByteArray}(h:E2 n L W nv v nms l xs)(hN:nms.length=N)(hg:W.grownBy w' nv.ownBlock)(ho:w'.ownsRow L 9 1 nv' (N+1) (tN nms++[.string st]))(sU:nv'.ownBlock=nv.ownBlock\/nv'.ownBlock=some W.heap.size):E2 n L w' nv' v (nms++[st]) l xs:=by
 have hz:=hg.size;refine⟨?_,?_,fun j hj=>?_⟩
 ·unfold nA
  rw[List.length_append,List.length_singleton,hN]
  simpa [tN] using ho
 ·exact aX h.row fun g dG hl=>hg.block g hl (fun e=>h.apart g dG e.symm)
 obtain⟨q,s,e,k1,k2,k3,k4⟩:=h.all j hj;have:=k1.2.1;refine⟨q,s,e,k1.move (by omega) (fun k a b=>hg.block k (by omega) (fun e1=>by rcases k3 k (Or.inr e1.symm)with h|h<;>omega)),k2,?_,k4⟩;intro g dG;rcases dG with dG | dG
 ·exact k3 g (Or.inl dG)
 rcases sU with h1|h1
 ·exact k3 g (Or.inr (h1▸dG))
 rw[h1]at dG;cases dG;right;omega
theorem E2.push{n L N s0 e0:Nat}{W w':World}{nv v v':Value}{nms:List ByteArray}{l:List (ET n)}{xs:List Value}{x:ET n}{q:Sl}(h:E2 n L W nv v nms l xs)(hN:l.length=N)(hc:KE n W x q s0 e0)(ow:L<=s0)(hap:∀g,v.ownBlock=some g\/nv.ownBlock=some g->g<s0)(hg:W.grownBy w' v.ownBlock)(ho:w'.ownsRow L 33 13 v' (N+1) (xs++(ecl (ehd n x) q).toList))(sU:v'.ownBlock=v.ownBlock\/v'.ownBlock=some W.heap.size):E2 n L w' nv v' nms (l++[x]) (xs++(ecl (ehd n x) q).toList):=by
 have hz:=hg.size;have WH:=hc.2.1;refine⟨?_,?_,fun j hj=>?_⟩
 ·exact aX h.nrow fun g dG hl=>hg.block g hl (fun e=>h.apart g e.symm dG)
 ·rw[List.length_append,List.length_singleton,hN];exact ho
 rw[List.length_append,List.length_singleton]at hj;by_cases oN:j<l.length
 ·obtain⟨q',s,e,k1,k2,k3,k4⟩:=h.all j oN
  have:=k1.2.1;rw[List.getElem_append_left oN];refine⟨q',s,e,k1.move (by omega) (fun k a b=>hg.block k (by omega) (fun e1=>by rcases k3 k (Or.inl e1.symm)with h|h<;>omega)),k2,?_,?_⟩
  ·intro g dG
   rcases dG with dG | dG
   ·rcases sU with h1|h1
    ·exact k3 g (Or.inl (h1▸dG))
    rw[h1]at dG;cases dG;right;omega
   exact k3 g (Or.inr dG)
  intro r u hr;have:=k4 r u hr;rw[List.getElem?_append_left ((List.getElem?_eq_some_iff.1 this).1)];exact this
 obtain rfl:j=l.length:=by omega
 rw[List.getElem_append_right (Nat.le_refl _)];simp only[Nat.sub_self,List.getElem_cons_zero];refine⟨q,s0,e0,hc.move (by omega) (fun k a b=>hg.block k (by omega) (fun e1=>by have:=hap k (Or.inl e1.symm);omega)),ow,?_,?_⟩
 ·intro g dG
  rcases dG with dG | dG
  ·rcases sU with h1|h1
   ·left;exact hap g (Or.inl (h1▸dG))
   rw[h1]at dG;cases dG;right;omega
  left;exact hap g (Or.inr dG)
 intro r u hr;have hl:xs.length=l.length*13:=h.row.1;rw[List.getElem?_append_right (by omega),hl,Nat.add_sub_cancel_left];exact hr
theorem wU{W:World}{B:Nat}{v:Value}{l:List ByteArray}(ho:nA W B v l):NL W v l:=by
 have hr:=World.ownsRow.lt ho;have nR:=ho;obtain⟨h0,h1⟩:=ho;rcases h1 with⟨rfl,e⟩|⟨g,cap,cur,rfl,k1,k2,k3,k4,k5,k6⟩
 ·exact Or.inl ⟨rfl,List.eq_nil_of_length_eq_zero e⟩
 refine Or.inr ⟨g,0,cap,none,rfl,k3,k4,fun _=>⟨rfl,(hr g rfl).2⟩,fun i hi=>?_⟩;rw[Nat.zero_add,World.ownsRow.cellAt nR i (by simpa using hi)];simp[tN,hi]
theorem E2.nl{n L:Nat}{W:World}{nv v:Value}{nms:List ByteArray}{l:List (ET n)}{xs:List Value}(h:E2 n L W nv v nms l xs):NL W nv nms:=wU h.nrow
theorem E2.notB{n L B:Nat}{W:World}{nv v:Value}{nms:List ByteArray}{l:List (ET n)}{xs:List Value}(h:E2 n L W nv v nms l xs)(hB:B<L):IX B nv:=by intro b o sp m c e;have:=(World.ownsRow.lt h.nrow b (by rw[e];rfl)).1;omega
theorem E2.shape{n L:Nat}{W:World}{nv v:Value}{nms:List ByteArray}{l:List (ET n)}{xs:List Value}(h:E2 n L W nv v nms l xs):∃a c a' c',nv=.slice a nms.length c/\v=.slice a' l.length c':=by obtain⟨a,c,e,_⟩:=h.nl.len;obtain⟨a',c',e'⟩:=h.er.shape;exact⟨a,c,a',c',e,e'⟩
theorem FM{w:World}{ops:Array Oper}{rest:List Oper}{o:Oper}{a:Act}{Q:Exit->Act->World->Prop}(hgd:o.guard=none)(s x:Operand)(ho:o.op=.call {callee:=.builtin .append,args:=#[s,x],argTypes:=#[23,23]})
  (B:Nat) (v:Value) (n:Nat) (xs:List Value) (hs:a.eval s=v) (bz:w.ownsRow B 9 1 v n xs) (g c:Nat) (hx:a.eval x=.slice (some ⟨g,0,none⟩) 1 c) (t:ByteArray)
  (hnews:w.cell? ⟨g,0,none⟩=some (.string t)) (hm:n<=200000) (hB:B<=w.heap.size)
  (h:∀av c' w',Hid (w'.ownsRow B 9 1 (.slice av (n+1) c') (n+1) (xs++[.string t]))->Hid (w.grownBy w' v.ownBlock)->Hid ((Value.slice av (n+1) c').ownBlock=v.ownBlock\/(Value.slice av (n+1) c').ownBlock=some w.heap.size)->wpList prog ops Q rest (a.put o.dst (.slice av (n+1) c')) w'):wpList prog ops Q (o::rest) a w:=by
 obtain⟨i0,hi,fY,gD,eR⟩:=info_parts Jq;refine wpList_append_own_at w hgd s x 23 ho B 9 i0 _ 1 16 Tryz.underlying23 hi fY gD eR rfl (by decide) v n xs hs bz ⟨g,0,none⟩ 1 c [.string t] hx rfl ?_ (by simp[Value.oneCell']) (by unfold maxLen;omega) (by omega) hB ?_
 ·intro j u hj
  have h0:j=0:=by have:=(List.getElem?_eq_some_iff.1 hj).1;simpa using this
  subst h0;cases hj;exact hnews
 intro v' w' h1 h2 h3 h4;rcases h1.2 with⟨rfl,e⟩|⟨g',cap,cur,rfl,_⟩
 ·omega
 exact h _ _ w' h1 h2 h4
def lenB(w:World)(B:Nat):Nat:=match w.cell? ⟨B,0,none⟩with
 |some (.slice _ n _)=>n
 |_=>0
theorem TQ.lenB{w:World}{B:Nat}{l:List Tk}(h:TQ w B l):Lx.lenB w B=l.length:=by
 obtain⟨a,c,h0,_⟩:=h;have cB:w.cell? ⟨B,0,none⟩=some (.slice a l.length c):=by unfold World.cell?;rw[h0];rfl
 unfold Lx.lenB;rw[cB]
end Lx
