import Derived.Test.YtcnfchblfcfimaaGreatDoorZh22
import Derived.Test.YtcnfchblfcfimaaGreatDoorZh24
import Derived.Test.YtcnfchblfcfimaaGreatDoorZh12
set_option linter.all false
set_option maxHeartbeats 2000000
set_option maxRecDepth 100000
namespace Go.Proofs.YtcnfchblfcfimaaGreatDoor
open Proofs.Tryz RowKit
structure Th where
 kind:Int
 names:List ByteArray
def TT:Nat->Type
 |0=>Empty
 |n+1=>Th×List (TT n)
def gz:(n:Nat)->TT n->Th
 |0,x=>Empty.elim x
 |_+1,x=>x.1
def fR(h:Th)(ns ls:Value):Array Value:=#[.int .i64 h.kind,ns,ls]
def UT{α:Type}(hd:α->Th)(R:α->Value->Value->Prop)(w:World)(v:Value)(l:List α):Prop :=
 (v=.slice none 0 0/\l=[])\/∃(b o c:Nat) (sp:Option Nat),v=.slice (some ⟨b,o,sp⟩) l.length c/\l.length<=c/\c<=maxLen/\(0<l.length->sp=none/\b<w.heap.size) /\
   ∀i (h:i<l.length),∃ns' ls',w.rangeAt b (o+i*3) (fR (hd l[i]) ns' ls').toList/\R l[i] ns' ls'
def RT:(n:Nat)->World->TT n->Value->Value->Prop
 |0,_,_,_,_=>False
 |n+1,w,x,ns,ls=>NL w ns x.1.names/\UT (gz n) (fun y ns' ls'=>RT n w y ns' ls') w ls x.2
def TL(n:Nat)(w:World)(v:Value)(l:List (TT n)):Prop:=UT (gz n) (fun y ns' ls'=>RT n w y ns' ls') w v l
theorem RT.below:∀ {n:Nat} {w W:World} {x:TT n} {ns ls:Value},RT n w x ns ls->Below w.heap.size w W->RT n W x ns ls
 |0,_,_,x,_,_,_,_=>Empty.elim x
 |n+1,w,W,x,ns,ls,h,hb=>by
  obtain⟨h1,h2⟩:=h;refine⟨h1.below hb,?_⟩;rcases h2 with h2|⟨b,o,c,sp,e,k1,k2,k3,hc⟩
  ·exact Or.inl h2
  refine Or.inr ⟨b,o,c,sp,e,k1,k2,fun h=>⟨(k3 h).1,Nat.lt_of_lt_of_le (k3 h).2 hb.size⟩,fun i hi=>?_⟩;obtain⟨ns',ls',r1,r2⟩:=hc i hi;exact⟨ns',ls',am r1 hb (k3 (by omega)).2,RT.below r2 hb⟩
theorem TL.below{n:Nat}{w W:World}{v:Value}{l:List (TT n)}(h:TL n w v l)(hb:Below w.heap.size w W):TL n W v l:=by
 rcases h with h2|⟨b,o,c,sp,e,k1,k2,k3,hc⟩
 ·exact Or.inl h2
 refine Or.inr ⟨b,o,c,sp,e,k1,k2,fun h=>⟨(k3 h).1,Nat.lt_of_lt_of_le (k3 h).2 hb.size⟩,fun i hi=>?_⟩;obtain⟨ns',ls',r1,r2⟩:=hc i hi;exact⟨ns',ls',am r1 hb (k3 (by omega)).2,RT.below r2 hb⟩
theorem RT.tl{n:Nat}{w:World}{x:TT (n+1)}{ns ls:Value}(h:RT (n+1) w x ns ls):TL n w ls x.2:=h.2
theorem TL.len{n:Nat}{w:World}{v:Value}{l:List (TT n)}(h:TL n w v l):∃a c,v=.slice a l.length c/\l.length<=c/\c<=maxLen:=by
 rcases h with⟨rfl,rfl⟩|⟨b,o,c,sp,rfl,h1,h2,_⟩
 ·exact⟨none,0,rfl,Nat.le_refl _,by decide⟩
 exact⟨_,c,rfl,h1,h2⟩
theorem RT.len{n:Nat}{w:World}{x:TT (n+1)}{ns ls:Value}(h:RT (n+1) w x ns ls):∃a c,ls=.slice a x.2.length c/\x.2.length<=c/\c<=maxLen:=h.tl.len
theorem TL.at{n:Nat}{w:World}{v:Value}{l:List (TT n)}(h:TL n w v l)(i:Nat)(hi:i<l.length):∃b o c,v=.slice (some ⟨b,o,none⟩) l.length c/\b<w.heap.size/\l.length<=c/\c<=maxLen/\∃ns' ls',w.rangeAt b (o+i*3) (fR (gz n l[i]) ns' ls').toList/\RT n w l[i] ns' ls':=by
 rcases h with⟨rfl,e⟩|⟨b,o,c,sp,rfl,h1,h2,h3,hc⟩
 ·rw[e]at hi;simp at hi
 obtain⟨rfl,hb⟩:=h3 (by omega);exact⟨b,o,c,rfl,hb,h1,h2,hc i hi⟩
theorem RT.at{n:Nat}{w:World}{x:TT (n+1)}{ns ls:Value}(h:RT (n+1) w x ns ls)(i:Nat)(hi:i<x.2.length):∃b o c,ls=.slice (some ⟨b,o,none⟩) x.2.length c/\b<w.heap.size/\x.2.length<=c/\c<=maxLen/\∃ns' ls',w.rangeAt b (o+i*3) (fR (gz n x.2[i]) ns' ls').toList/\RT n w x.2[i] ns' ls':=h.tl.at i hi
theorem pI{w:World}{b o:Nat}{h:Th}{ns ls:Value}(k:w.rangeAt b o (fR h ns ls).toList):w.cell? ⟨b,o,none⟩=some (.int .i64 h.kind)/\w.cell? ⟨b,o+1,none⟩=some ns/\w.cell? ⟨b,o+2,none⟩=some ls :=
 ⟨k 0 _ rfl,k 1 _ rfl,k 2 _ rfl⟩
theorem RT.shape:∀ {n:Nat} {w:World} {x:TT n} {ns ls:Value},RT n w x ns ls->∃a m c a' m' c',ns=.slice a m c/\ls=.slice a' m' c'
 |0,_,x,_,_,_=>Empty.elim x
 |n+1,w,x,ns,ls,h=>by obtain⟨a,c,e,_⟩:=h.1.len;obtain⟨a',c',e',_⟩:=h.len;exact⟨_,_,_,_,_,_,e,e'⟩
structure Tx(W:World)(i:Nat)(h:Th)(ns ls:Value):Prop where
 at_:W.heap[i]?=some (.cells (fR h ns ls) 48 (0,0))
theorem pq(w:World)(h:Th)(ns ls:Value):Tx (w.alloc (.cells (fR h ns ls) 48)) w.heap.size h ns ls:=⟨heap_alloc_last w _⟩
theorem Tx.lt{W:World}{i:Nat}{h:Th}{ns ls:Value}(k:Tx W i h ns ls):i<W.heap.size:=by
 have:=k.at_;by_cases bm:i<W.heap.size
 ·exact bm
 have hn:W.heap[i]?=none:=by simp;omega
 rw[hn]at this;cases this
theorem Tx.below{W W1:World}{i:Nat}{h:Th}{ns ls:Value}(k:Tx W i h ns ls)(hb:Below W.heap.size W W1):Tx W1 i h ns ls:=⟨(hb.block _ k.lt).trans k.at_⟩
theorem Tx.cell{W:World}{i:Nat}{h:Th}{ns ls:Value}(k:Tx W i h ns ls)(j:Nat):W.cell? ⟨i,j,none⟩=(fR h ns ls)[j]?:=by unfold World.cell?;rw[k.at_];rfl
theorem Tx.cells{W:World}{i:Nat}{h:Th}{ns ls:Value}(k:Tx W i h ns ls):W.cell? ⟨i,0,none⟩=some (.int .i64 h.kind)/\W.cell? ⟨i,1,none⟩=some ns/\W.cell? ⟨i,2,none⟩=some ls :=
 ⟨k.cell 0,k.cell 1,k.cell 2⟩
def ka:(n:Nat)->TT n->Nat
 |0,_=>0
 |n+1,x=>1+jl (x.2.map (ka n))
def cW:(n:Nat)->TT n->Nat
 |0,_=>0
 |n+1,x=>1+aA (x.2.map (cW n))
theorem yo:∀(n:Nat) (x:TT n),ka n x<=cW n x
 |0,x=>Empty.elim x
 |n+1,x=>by simp only[ka,cW];have:=wX (l:=x.2.map (ka n)) (m:=x.2.map (cW n)) (fun i h1 h2=>by simp only[List.getElem_map];exact yo n _) (by simp);omega
theorem pr{n:Nat}{x:TT (n+1)}{i:Nat}(h:i<x.2.length):cW n x.2[i]<cW (n+1) x:=by have:=iO (l:=x.2.map (cW n)) (i:=i) (by simpa using h);simp only[List.getElem_map]at this;simp only[cW];omega
theorem wk:∀(n:Nat) (x:TT n) (ns ls:Value) (w:World),RT n w x ns ls->cW n x<=200000 ->
  Calls prog 100 #[.agg (fR (gz n x) ns ls)] w fun e w'=>e=.returned (.int .i64 (ka n x))/\Below w.heap.size w w':=by
 intro n
 induction n with
 |zero=>intro x;exact Empty.elim x
 |succ n ih=>
  intro x ns ls w hr hs;obtain⟨h,l⟩:=x;obtain⟨al,cl,rfl,bB,br⟩:=hr.len;have hr:=aa hr;have ih':=aa ih;have eK:=aa hs;clear ih hs;show Calls _ _ #[.agg #[.int .i64 h.kind,ns,.slice al l.length cl]] _ _;go_enter func100,ntmps100;go_wp2_with fail
  go_loopw [3,9] (fun m i w'=>∃k:Nat,m=.int .i64 (jl ((l.map (ka n)).take k):Nat)/\i=.int .i64 k/\k<=l.length/\Hid (Below w.heap.size w w')) (fun _ i _=>l.length-(intOf i).toNat)
  case atStart=>exact⟨0,rfl,rfl,Nat.zero_le _,ab af⟩
  case round=>
   obtain⟨k,rfl,rfl,hk,hb⟩:=hrel;have ml:maxLen=9223372036854775807:=rfl;have cR:(k:Int)<=9223372036854775807:=by omega
   by_cases aE:k<l.length
   ·obtain⟨b,o,c,he,cQ,gq,iE,ns',ls',bT,bf⟩:=hr.out.at k aE
    have cy:=Value.slice.inj he;obtain⟨rfl,_,rfl⟩:=cy;clear he;have bF:(k:Int)<(l.length:Int):=by omega
    have cR:(k:Int)<9223372036854775807:=by omega
    obtain⟨c0,c1,c2⟩:=pI (am bT hb.out cQ);have cA:=aa (bf.below hb.out);obtain⟨a1,m1,d1,a2,m2,d2,rfl,rfl⟩:=bf.shape;clear bT bf;have jo:cW n l[k]<=200000:=by have h1:=pr (x:=(h,l)) aE;have h2:=eK.out;simp only at h1;omega
    obtain⟨D,hD⟩:∃D,ka n l[k]=D:=⟨_,rfl⟩
    have eL:=mV (l.map (ka n)) k (by simpa using aE);rw[List.getElem_map,hD]at eL;have hcall:=aa (fun o=>ih'.out l[k] (.slice a1 m1 d1) (.slice a2 m2 d2) (wr.alloc o) (cA.out.below (ab af)) jo);rw[hD]at hcall;obtain⟨M,hM⟩:∃M,jl ((l.map (ka n)).take k)=M:=⟨_,rfl⟩
    rw[hM]at eL ⊢;have ea:=aa eL;have jP:=aa hD;have UJ:=aa hM;clear hD hM jo eL;rcases Nat.lt_trichotomy M D with bm|bm|bm
    ·have jE:(M:Int)<(D:Int):=by omega
     have Mk:¬((D:Int)<(M:Int)):=by omega
     go_wp2_with(go_at_call 100;refine(hcall.out _).mono ?_;rintro e w1 ⟨rfl,ai⟩)
     exact⟨⟨k+1,by rw[ea.out];congr 2;omega,by go_num,by omega,ac (ab hb.out) ai⟩,by simp[intOf];omega⟩
    ·subst bm
     have jE:¬((M:Int)<(M:Int)):=by omega
     go_wp2_with(go_at_call 100;refine(hcall.out _).mono ?_;rintro e w1 ⟨rfl,ai⟩)
     exact⟨⟨k+1,by rw[ea.out];congr 2;omega,by go_num,by omega,ac (ab hb.out) ai⟩,by simp[intOf];omega⟩
    have jE:(D:Int)<(M:Int):=by omega
    have Mk:¬((M:Int)<(D:Int)):=by omega
    go_wp2_with(go_at_call 100;refine(hcall.out _).mono ?_;rintro e w1 ⟨rfl,ai⟩)
    exact⟨⟨k+1,by rw[ea.out];congr 2;omega,by go_num,by omega,ac (ab hb.out) ai⟩,by simp[intOf];omega⟩
   have bF:¬((k:Int)<(l.length:Int)):=by omega
   have jK:k=l.length:=by omega
   have hD:ka (n+1) (h,l)=1+jl ((l.map (ka n)).take k):=by simp only[ka];rw[List.take_of_length_le (by simp;omega)]
   have cC:1+jl ((l.map (ka n)).take k)<=200000:=by rw[<-hD];exact Nat.le_trans (yo _ _) eK.out
   obtain⟨M,hM⟩:∃M,jl ((l.map (ka n)).take k)=M:=⟨_,rfl⟩
   rw[hM]at cC hD ⊢;have jP:=aa hD;clear hD hM jK;have TC:(M:Int)<200000:=by omega
   clear cC;go_wp2_with fail
   go_ret;exact⟨by rw[jP.out];exact il (by omega),hb.out⟩
theorem Af:∀(n:Nat) (x:TT n) (ns ls:Value) (w:World),RT n w x ns ls->cW n x<=200000 ->
  Calls prog 101 #[.agg (fR (gz n x) ns ls)] w fun e w'=>e=.returned (.int .i64 (cW n x))/\Below w.heap.size w w':=by
 intro n
 induction n with
 |zero=>intro x;exact Empty.elim x
 |succ n ih=>
  intro x ns ls w hr hs;obtain⟨h,l⟩:=x;obtain⟨al,cl,rfl,bB,br⟩:=hr.len;have hr:=aa hr;have ih':=aa ih;have eK:=aa hs;clear ih hs;show Calls _ _ #[.agg #[.int .i64 h.kind,ns,.slice al l.length cl]] _ _;go_enter func101,ntmps101;go_wp2_with fail
  go_loopw [3,9] (fun m i w'=>∃k:Nat,m=.int .i64 (1+aA ((l.map (cW n)).take k):Nat)/\i=.int .i64 k/\k<=l.length/\Hid (Below w.heap.size w w')) (fun _ i _=>l.length-(intOf i).toNat)
  case atStart=>exact⟨0,rfl,rfl,Nat.zero_le _,ab af⟩
  case round=>
   obtain⟨k,rfl,rfl,hk,hb⟩:=hrel;have ml:maxLen=9223372036854775807:=rfl;have cR:(k:Int)<=9223372036854775807:=by omega
   obtain⟨M,hM⟩:∃M,1+aA ((l.map (cW n)).take k)=M:=⟨_,rfl⟩
   have qb:M<=200000:=by have h1:=eo (l.map (cW n)) k;have h2:=eK.out;simp only[cW]at h2;omega
   by_cases aE:k<l.length
   ·obtain⟨b,o,c,he,cQ,gq,iE,ns',ls',bT,bf⟩:=hr.out.at k aE
    have cy:=Value.slice.inj he;obtain⟨rfl,_,rfl⟩:=cy;clear he;have bF:(k:Int)<(l.length:Int):=by omega
    have cR:(k:Int)<9223372036854775807:=by omega
    obtain⟨c0,c1,c2⟩:=pI (am bT hb.out cQ);have cA:=aa (bf.below hb.out);obtain⟨a1,m1,d1,a2,m2,d2,rfl,rfl⟩:=bf.shape;clear bT bf;have jo:cW n l[k]<=200000:=by have h1:=pr (x:=(h,l)) aE;have h2:=eK.out;simp only at h1;omega
    obtain⟨D,hD⟩:∃D,cW n l[k]=D:=⟨_,rfl⟩
    have eL:=cZ (l.map (cW n)) k (by simpa using aE);rw[List.getElem_map,hD]at eL;have hcall:=aa (fun o=>ih'.out l[k] (.slice a1 m1 d1) (.slice a2 m2 d2) (wr.alloc o) (cA.out.below (ab af)) jo);rw[hD]at hcall jo;have eL:1+aA ((l.map (cW n)).take (k+1))=M+D:=by omega
    rw[hM];have ea:=aa eL;have Cg:(D:Int)<=200000:=by omega
    have TD:(M:Int)<=200000:=by omega
    clear hD hM jo eL qb;go_wp2_with(go_at_call 101;refine(hcall.out _).mono ?_;rintro e w1 ⟨rfl,ai⟩)
    exact⟨⟨k+1,by rw[ea.out];first|rfl|(congr 1),by go_num,by omega,ac (ab hb.out) ai⟩,by simp[intOf];omega⟩
   have bF:¬((k:Int)<(l.length:Int)):=by omega
   have hD:cW (n+1) (h,l)=M:=by rw[<-hM];simp only[cW];rw[List.take_of_length_le (by simp;omega)]
   rw[hM];have jP:=aa hD;clear hD hM qb;go_wp2_with fail
   go_ret;exact⟨by rw[jP.out];rfl,hb.out⟩
def Rt:(n:Nat)->TT n->Nat
 |0,_=>0
 |n+1,x=>1+x.1.names.length+aA (x.1.names.map ByteArray.size)+aA (x.2.map (Rt n))
def NE:(n:Nat)->TT n->Prop
 |0,_=>True
 |n+1,x=>x.1.names.length<=281474976710656/\(∀s∈x.1.names,s.size<=281474976710656)/\∀y∈x.2,NE n y
namespace Lx
def np(c:UInt8):List UInt8:=if c=34\/c=92 then [92,c] else if c.toNat<32 then [92,117,48,48,hx (c.toNat/16),hx (c.toNat%16)] else [c]
def qP(l:List UInt8):List UInt8:=l.flatMap np
def GW(l:List UInt8):List UInt8:=34::(qP l++[34])
theorem Bn(l:List UInt8)(c:UInt8):qP (l++[c])=qP l++np c:=by simp[qP]
theorem eb(w:World)(o:Obj):(w.alloc o).heap[w.heap.size]?=some o:=Array.getElem?_push_size
theorem ku(w W:World)(l:List UInt8)(T:TypeId)(hW:W.heap=(w.alloc (.cells (jS l).toArray T)).heap):∀j u,(jS l)[j]?=some u->W.cell? ((⟨w.heap.size,0,none⟩:Addr).add j)=some u:=by
 intro j u hj;have q:W.heap[w.heap.size]?=some (.cells (jS l).toArray T (0,0)):=by rw[hW];exact eb _ _
 rw[show(⟨w.heap.size,0,none⟩:Addr).add j=⟨w.heap.size,j,none⟩by unfold Addr.add;split<;>simp_all];unfold World.cell?;rw[q];show(jS l).toArray[j]?=some u;rw[<-hj,List.getElem?_toArray]
theorem Fq(l:List UInt8):(qP l).length<=6*l.length:=by
 induction l with
 |nil=>simp[qP]
 |cons a l ih=>
  have:(np a).length<=6:=by unfold np;split<;>(try split)<;>simp
  simp only[qP,List.flatMap_cons,List.length_append,List.length_cons]at ih ⊢;omega
theorem tJ{w:World}{ops:Array Oper}{rest:List Oper}{o:Oper}{a:Act}{Q:Exit->Act->World->Prop}(hgd:o.guard=none)(s x:Operand)(ho:o.op=.call {callee:=.builtin .append,args:=#[s,x],argTypes:=#[94,94]})
  (B:Nat) (v:Value) (l:List UInt8) (hs:a.eval s=v) (bz:dj w B v l) (ad:Addr) (m c:Nat) (news:List UInt8) (hx:a.eval x=.slice (some ad) m c) (hm:news.length=m)
  (hnews:∀j u,(jS news)[j]?=some u->w.cell? (ad.add j)=some u) (hl:l.length+m<=110000000000000) (hB:B<=w.heap.size) (hp:0<l.length+m)
  (h:∀av c' w',Hid (dj w' B (.slice av (l.length+m) c') (l++news))->Hid (Below B w w')->wpList prog ops Q rest (a.put o.dst (.slice av (l.length+m) c')) w'):wpList prog ops Q (o::rest) a w:=by
 obtain⟨i0,hi,fY,gD,eR⟩:=info_parts ou;refine wpList_append_own_at w hgd s x 94 ho B 5 i0 _ 1 1 Tryz.underlying94 hi fY gD eR rfl (by decide) v l.length (jS l) hs bz ad m c (jS news) hx (by rw[jv,hm];simp) hnews ?_ (by unfold maxLen;omega) (by omega) hB ?_
 ·intro u hu
  simp only[jS,List.mem_map]at hu;obtain⟨c,_,rfl⟩:=hu;rfl
 intro v' w' h1 h2 h3 h4;have hO:dj w' B v' (l++news):=by unfold dj;rw[eO,List.length_append,hm];exact h1
 rcases h1.2 with⟨rfl,e⟩|⟨g',cap,cur,rfl,_⟩
 ·omega
 exact h _ _ w' hO ((Below.refl B w).grown h2 hB bz.row)
theorem zT{c:UInt8}{v:Nat}(h:¬c=UInt8.ofNat v):((c.toNat:Int)==(v:Int))=false:=by
 have:¬(c.toNat:Int)=(v:Int):=fun e=>h (by
  have:c.toNat=v:=by omega
  rw[<-this];simp)
 simpa using this
theorem Az(w:World)(c:UInt8):dj (w.alloc (.cells #[.int .u8 c.toNat] 5)) w.heap.size (.slice (some ⟨w.heap.size,0,none⟩) 1 1) [c] :=
 ⟨rfl,Or.inr ⟨w.heap.size,1,#[.int .u8 c.toNat],rfl,Nat.le_refl _,eb _ _,Nat.le_refl _,by decide,rfl,rfl⟩⟩
theorem CV(s:ByteArray)(w:World)(hs:s.size<=100000):Calls prog 87 #[.string s] w fun e w'=>e=.returned (.string (aj (GW (bl s))))/\Below w.heap.size w w':=by
 go_enter func87,ntmps87;go_wp2;go_loopw [3,4] (fun b i W=>∃(k n:Nat) (a:Option Addr) (cp:Nat) (L:List UInt8),i=.int .i64 k/\b=.slice a n cp/\k<=s.size/\Hid (L=34::qP ((bl s).take k)/\n=L.length/\dj W w.heap.size (.slice a n cp) L/\Below w.heap.size w W)) (fun _ i _=>s.size-(intOf i).toNat)
 case atStart=>exact⟨0,1,_,1,[34],rfl,rfl,Nat.zero_le _,aa ⟨rfl,rfl,Az w 34,ab af⟩⟩
 case round=>
  obtain⟨k,n,a,cp,L,rfl,rfl,hk,HH⟩:=hrel;obtain⟨hL,hn,hO,hB⟩:=HH.out;have iu:n<=600001:=by have:=Fq ((bl s).take k);rw[List.length_take,bl_length]at this;rw[hn,hL,List.length_cons];omega
  have OR:=aa hO;have BR:=aa hB;have VX:=aa hn;have UK:=aa hL;clear HH hO hB hn hL;have zo:L.length=n:=VX.out.symm;have vf:=aa zo;have zr1:w.heap.size<=wr.heap.size:=BR.out.size;by_cases aE:k<s.size
  ·have bF:(k:Int)<(s.size:Int):=by omega
   have cb:=aa (show 34::qP ((bl s).take (k+1))=L++np s[k]by rw[List.take_succ_eq_append_getElem (by rw[bl_length];exact aE),Bn,bH s k aE,UK.out,List.cons_append])
   obtain⟨c,hc⟩:∃c,s[k]=c:=⟨_,rfl⟩
   rw[hc]at cb;have Bb:c.toNat<256:=c.toNat_lt;by_cases h1:c=34\/c=92
   ·have he:np c=[92,c]:=by unfold np;rw[if_pos h1]
    rw[he]at cb;have hq:((c.toNat:Int)==34)=true\/(((c.toNat:Int)==34)=false/\((c.toNat:Int)==92)=true):=by
     rcases h1 with rfl|rfl
     ·exact Or.inl rfl
     exact Or.inr ⟨rfl,rfl⟩
    clear h1 he;rcases hq with q1|⟨q1,q2⟩
    all_goals
     go_wp2_with(at_builtin;refine ak.out ?_)
     refine ak.mk ?_;refine tJ rfl (.tmp 27) (.tmp 29) rfl w.heap.size (.slice a n cp) L rfl (aX OR.out fun g hg bm=>Below.heap_alloc _ _ _ bm) ⟨wr.heap.size,0,none⟩ 2 2 [92,c] rfl rfl (ku wr _ [92,c] 5 rfl) (by omega) (by simp;omega) (by omega) ?_;intro av c' w' ho hb;rw[vf.out]at ho ⊢;go_wp2_with fail
     refine⟨⟨k+1,n+2,av,c',L++[92,c],by go_num,rfl,aE,aa ⟨cb.out.symm,by rw[List.length_append,vf.out];rfl,ho.out,(BR.out.trans ((ab af).mono zr1)).trans hb.out⟩⟩,by simp[intOf];omega⟩
   have q1:((c.toNat:Int)==34)=false:=zT (fun e=>h1 (Or.inl e));have q2:((c.toNat:Int)==92)=false:=zT (fun e=>h1 (Or.inr e));by_cases h2:c.toNat<32
   ·have he:np c=[92,117,48,48,hx (c.toNat/16),hx (c.toNat%16)]:=by unfold np;rw[if_neg h1,if_pos h2]
    rw[he]at cb;have q3:decide ((c.toNat:Int)<32)=true:=by simp;omega
    have jN:c.toNat/16<16:=by omega
    have mc:c.toNat%16<16:=by omega
    have Mi:c.toNat/16<(⟨#[48,49,50,51,52,53,54,55,56,57,97,98,99,100,101,102]⟩:ByteArray).size:=jN;have Mh:c.toNat%16<(⟨#[48,49,50,51,52,53,54,55,56,57,97,98,99,100,101,102]⟩:ByteArray).size:=mc;have jL:=pb (c.toNat/16) jN Mi;have ii:=pb (c.toNat%16) mc Mh;have LP:((c.toNat:Int)/16).toNat=c.toNat/16:=by omega
    have QY:(0:Int)<=(c.toNat:Int)/16:=by omega
    have dC:(c.toNat:Int)/16<16:=by omega
    have vd:((c.toNat:Int)%16).toNat=c.toNat%16:=by omega
    have ir:(0:Int)<=(c.toNat:Int)%16:=by omega
    have vO:(c.toNat:Int)%16<16:=by omega
    have Vw:IntKind.u8.wrap ((c.toNat:Int)/16)=(c.toNat:Int)/16:=by rw[IntKind.wrap_u8]<;>omega
    have Vv:IntKind.u8.wrap ((c.toNat:Int)%16)=(c.toNat:Int)%16:=by rw[IntKind.wrap_u8]<;>omega
    have tQ:Int.tdiv (c.toNat:Int) 16=(c.toNat:Int)/16:=by rw[Int.tdiv_eq_ediv_of_nonneg (by omega)]
    have HJ:Int.tmod (c.toNat:Int) 16=(c.toNat:Int)%16:=by rw[Int.tmod_eq_emod_of_nonneg (by omega)]
    clear he h1 h2;go_wp2_with fail
    go_region_law (refine pA rfl (.tmp 34) (.tmp 41) rfl w.heap.size (.slice a n cp) L rfl (aX OR.out fun g hg bm=>(show Below wr.heap.size wr _ by repeat (first|exact af|refine Below.drew ?_|refine ab ?_)).block g bm) ⟨wr.heap.size,0,none⟩ 6 6 [92,117,48,48,hx (c.toNat/16),hx (c.toNat%16)] rfl rfl (ku wr _ [92,117,48,48,hx (c.toNat/16),hx (c.toNat%16)] 5 rfl) (by rw[vf.out];omega) (by simp;omega) (by omega) ?_;intro av c' w' ho hb hz;have Rh:=aa ho.out;have TI:Hid (Below w.heap.size w w'):=(BR.out.trans ((show Below wr.heap.size wr _ by repeat (first|exact af|refine Below.drew ?_|refine ab ?_)).mono zr1)).trans hb.out;clear ho hb)
    all_goals
     rw[vf.out]at Rh;go_wp2_with fail
     refine⟨⟨k+1,n+6,av,c',L++[92,117,48,48,hx (c.toNat/16),hx (c.toNat%16)],by go_num,rfl,aE,aa ⟨cb.out.symm,by rw[List.length_append,vf.out];rfl,Rh.out,TI.out⟩⟩,by simp[intOf];omega⟩
   have he:np c=[c]:=by unfold np;rw[if_neg h1,if_neg h2]
   rw[he]at cb;have q3:decide ((c.toNat:Int)<32)=false:=by simp;omega
   clear he h1 h2;go_wp2_with(at_builtin;refine ak.out ?_)
   refine ak.mk ?_;refine tJ rfl (.tmp 16) (.tmp 18) rfl w.heap.size (.slice a n cp) L rfl (aX OR.out fun g hg bm=>Below.heap_alloc _ _ _ bm) ⟨wr.heap.size,0,none⟩ 1 1 [c] rfl rfl (ku wr _ [c] 5 rfl) (by omega) (by simp;omega) (by omega) ?_;intro av c' w' ho hb;rw[vf.out]at ho ⊢;go_wp2_with fail
   refine⟨⟨k+1,n+1,av,c',L++[c],by go_num,rfl,aE,aa ⟨cb.out.symm,by rw[List.length_append,vf.out];rfl,ho.out,(BR.out.trans ((ab af).mono zr1)).trans hb.out⟩⟩,by simp[intOf];omega⟩
  have bF:¬((k:Int)<(s.size:Int)):=by omega
  have hfull:Hid (L++[34]=GW (bl s)):=by show _=_;rw[UK.out,List.take_of_length_le (by rw[bl_length];omega)];rfl
  clear aE;go_wp2_with(at_builtin;refine ak.out ?_)
  refine ak.mk ?_;refine tJ rfl (.tmp 43) (.tmp 44) rfl w.heap.size (.slice a n cp) L rfl (aX OR.out fun g hg bm=>Below.heap_alloc _ _ _ bm) ⟨wr.heap.size,0,none⟩ 1 1 [34] rfl rfl (ku wr _ [34] 5 rfl) (by omega) (by simp;omega) (by omega) ?_;intro av c' w' ho hb;have ln:=cJ ho.out;rw[vf.out]at ln ⊢;go_wp2_with fail
  go_ret;exact⟨by rw[<-hfull.out];rfl,(BR.out.trans ((ab af).mono zr1)).trans hb.out⟩
theorem Iw(c:UInt8):np c=zG c:=by
 have h1:c=34↔c.toNat=34:=⟨fun h=>by rw[h];rfl,fun h=>UInt8.toNat_inj.1 h⟩
 have h2:c=92↔c.toNat=92:=⟨fun h=>by rw[h];rfl,fun h=>UInt8.toNat_inj.1 h⟩
 unfold np zG;simp only[h1,h2];rfl
theorem GV(l:List UInt8):GW l=rY l:=by unfold GW rY qP qu;have:np=zG:=funext Iw;rw[this]
theorem ur(s:ByteArray)(w:World)(hs:s.size<=100000):Calls prog 87 #[.string s] w fun e w'=>e=.returned (.string (aj (rY (bl s))))/\Below w.heap.size w w':=by have:=CV s w hs;rw[GV]at this;exact this
end Lx
