import Derived.Test.YtcnfchblfcfimaaGreatDoorZh10
set_option linter.all false
set_option maxHeartbeats 1000000
set_option maxRecDepth 100000
namespace Go.Proofs.YtcnfchblfcfimaaGreatDoor
open Proofs.Tryz RowKit
def jl:List Nat->Nat
 | []=>0
 |a::l=>max a (jl l)
theorem Hh(a b:List Nat):jl (a++b)=max (jl a) (jl b):=by
 induction a with
 |nil=>simp[jl]
 |cons x a ih=>simp only[List.cons_append,jl,ih];omega
def aA:List Nat->Nat
 | []=>0
 |a::l=>a+aA l
theorem gG(a b:List Nat):aA (a++b)=aA a+aA b:=by
 induction a with
 |nil=>simp[aA]
 |cons x a ih=>simp only[List.cons_append,aA,ih];omega
theorem mV(l:List Nat)(i:Nat)(h:i<l.length):jl (l.take (i+1))=max (jl (l.take i)) l[i]:=by rw[List.take_succ_eq_append_getElem h,Hh];simp[jl]
theorem cZ(l:List Nat)(i:Nat)(h:i<l.length):aA (l.take (i+1))=aA (l.take i)+l[i]:=by rw[List.take_succ_eq_append_getElem h,gG];simp[aA]
theorem eo(l:List Nat)(i:Nat):aA (l.take i)<=aA l:=by have:=gG (l.take i) (l.drop i);rw[List.take_append_drop]at this;omega
theorem wX{l m:List Nat}(h:∀i (h1:i<l.length) (h2:i<m.length),l[i]<=m[i])(hl:l.length=m.length):jl l<=aA m:=by
 induction l generalizing m with
 |nil=>exact Nat.zero_le _
 |cons a l ih=>
  cases m with
  |nil=>simp at hl
  |cons b m=>
   have h0:=h 0 (by simp) (by simp);have:=ih (m:=m) (fun i h1 h2=>h (i+1) (by simp;omega) (by simp;omega)) (by simpa using hl);simp only[List.getElem_cons_zero]at h0;simp only[jl,aA];omega
def rx:(n:Nat)->VT n->Nat
 |0,_=>0
 |n+1,x=>1+jl (x.2.map (rx n))
def jA:(n:Nat)->VT n->Nat
 |0,_=>0
 |n+1,x=>1+aA (x.2.map (jA n))
theorem Fv:∀(n:Nat) (x:VT n),rx n x<=jA n x
 |0,x=>Empty.elim x
 |n+1,x=>by simp only[rx,jA];have:=wX (l:=x.2.map (rx n)) (m:=x.2.map (jA n)) (fun i h1 h2=>by simp only[List.getElem_map];exact Fv n _) (by simp);omega
theorem iO{l:List Nat}{i:Nat}(h:i<l.length):l[i]<=aA l:=by have h1:=cZ l i h;have h2:=eo l (i+1);omega
theorem yx{n:Nat}{x:VT (n+1)}{i:Nat}(h:i<x.2.length):jA n x.2[i]<jA (n+1) x:=by have:=iO (l:=x.2.map (jA n)) (i:=i) (by simpa using h);simp only[List.getElem_map]at this;simp only[jA];omega
theorem Bq:∀(n:Nat) (x:VT n) (ns ls:Value) (w:World),RD n w x ns ls->jA n x<=200000 ->
  Calls prog 137 #[.agg (aP (aI n x) ns ls)] w fun e w'=>e=.returned (.int .i64 (rx n x))/\Below w.heap.size w w':=by
 intro n
 induction n with
 |zero=>intro x;exact Empty.elim x
 |succ n ih=>
  intro x ns ls w hr hs;obtain⟨h,l⟩:=x;obtain⟨al,cl,rfl,bB,br⟩:=hr.len;have hr:=aa hr;have ih':=aa ih;have eK:=aa hs;clear ih hs;show Calls _ _ #[.agg #[.int .i64 h.kind,.bool h.flag,.bool h.neg,.string h.dig,.int .i64 h.exp,.int .u64 h.bits,.string h.text,ns,.slice al l.length cl]] _ _;go_enter func137,ntmps137;go_wp2_with fail
  go_loopw [3,9] (fun m i w'=>∃k:Nat,m=.int .i64 (jl ((l.map (rx n)).take k):Nat)/\i=.int .i64 k/\k<=l.length/\Hid (Below w.heap.size w w')) (fun _ i _=>l.length-(intOf i).toNat)
  case atStart=>exact⟨0,rfl,rfl,Nat.zero_le _,ab af⟩
  case round=>
   obtain⟨k,rfl,rfl,hk,hb⟩:=hrel;have ml:maxLen=9223372036854775807:=rfl;have cR:(k:Int)<=9223372036854775807:=by omega
   by_cases aE:k<l.length
   ·obtain⟨b,o,c,he,cQ,gq,iE,ns',ls',bT,bf⟩:=hr.out.at k aE
    have cy:=Value.slice.inj he;obtain⟨rfl,_,rfl⟩:=cy;clear he;have bF:(k:Int)<(l.length:Int):=by omega
    have cR:(k:Int)<9223372036854775807:=by omega
    obtain⟨c0,c1,c2,c3,c4,c5,c6,c7,c8⟩:=fm (am bT hb.out cQ);have cA:=aa (bf.below hb.out);obtain⟨a1,m1,d1,a2,m2,d2,rfl,rfl⟩:=bf.shape;clear bT bf;have jo:jA n l[k]<=200000:=by have h1:=yx (x:=(h,l)) aE;have h2:=eK.out;simp only at h1;omega
    obtain⟨D,hD⟩:∃D,rx n l[k]=D:=⟨_,rfl⟩
    have eL:=mV (l.map (rx n)) k (by simpa using aE);rw[List.getElem_map,hD]at eL;have hcall:=aa (fun o=>ih'.out l[k] (.slice a1 m1 d1) (.slice a2 m2 d2) (wr.alloc o) (cA.out.below (ab af)) jo);rw[hD]at hcall;obtain⟨M,hM⟩:∃M,jl ((l.map (rx n)).take k)=M:=⟨_,rfl⟩
    rw[hM]at eL ⊢;have ea:=aa eL;have jP:=aa hD;have UJ:=aa hM;clear hD hM jo eL;rcases Nat.lt_trichotomy M D with bm|bm|bm
    ·have jE:(M:Int)<(D:Int):=by omega
     have Mk:¬((D:Int)<(M:Int)):=by omega
     go_wp2_with(go_at_call 137;refine(hcall.out _).mono ?_;rintro e w1 ⟨rfl,ai⟩)
     exact⟨⟨k+1,by rw[ea.out];congr 2;omega,by go_num,by omega,ac (ab hb.out) ai⟩,by simp[intOf];omega⟩
    ·subst bm
     have jE:¬((M:Int)<(M:Int)):=by omega
     go_wp2_with(go_at_call 137;refine(hcall.out _).mono ?_;rintro e w1 ⟨rfl,ai⟩)
     exact⟨⟨k+1,by rw[ea.out];congr 2;omega,by go_num,by omega,ac (ab hb.out) ai⟩,by simp[intOf];omega⟩
    have jE:(D:Int)<(M:Int):=by omega
    have Mk:¬((M:Int)<(D:Int)):=by omega
    go_wp2_with(go_at_call 137;refine(hcall.out _).mono ?_;rintro e w1 ⟨rfl,ai⟩)
    exact⟨⟨k+1,by rw[ea.out];congr 2;omega,by go_num,by omega,ac (ab hb.out) ai⟩,by simp[intOf];omega⟩
   have bF:¬((k:Int)<(l.length:Int)):=by omega
   have jK:k=l.length:=by omega
   have hD:rx (n+1) (h,l)=1+jl ((l.map (rx n)).take k):=by simp only[rx];rw[List.take_of_length_le (by simp;omega)]
   have cC:1+jl ((l.map (rx n)).take k)<=200000:=by rw[<-hD];exact Nat.le_trans (Fv _ _) eK.out
   obtain⟨M,hM⟩:∃M,jl ((l.map (rx n)).take k)=M:=⟨_,rfl⟩
   rw[hM]at cC hD ⊢;have jP:=aa hD;clear hD hM jK;have TC:(M:Int)<200000:=by omega
   clear cC;go_wp2_with fail
   go_ret;exact⟨by rw[jP.out];exact il (by omega),hb.out⟩
theorem CN:∀(n:Nat) (x:VT n) (ns ls:Value) (w:World),RD n w x ns ls->jA n x<=200000 ->
  Calls prog 138 #[.agg (aP (aI n x) ns ls)] w fun e w'=>e=.returned (.int .i64 (jA n x))/\Below w.heap.size w w':=by
 intro n
 induction n with
 |zero=>intro x;exact Empty.elim x
 |succ n ih=>
  intro x ns ls w hr hs;obtain⟨h,l⟩:=x;obtain⟨al,cl,rfl,bB,br⟩:=hr.len;have hr:=aa hr;have ih':=aa ih;have eK:=aa hs;clear ih hs;show Calls _ _ #[.agg #[.int .i64 h.kind,.bool h.flag,.bool h.neg,.string h.dig,.int .i64 h.exp,.int .u64 h.bits,.string h.text,ns,.slice al l.length cl]] _ _;go_enter func138,ntmps138;go_wp2_with fail
  go_loopw [3,9] (fun m i w'=>∃k:Nat,m=.int .i64 (1+aA ((l.map (jA n)).take k):Nat)/\i=.int .i64 k/\k<=l.length/\Hid (Below w.heap.size w w')) (fun _ i _=>l.length-(intOf i).toNat)
  case atStart=>exact⟨0,rfl,rfl,Nat.zero_le _,ab af⟩
  case round=>
   obtain⟨k,rfl,rfl,hk,hb⟩:=hrel;have ml:maxLen=9223372036854775807:=rfl;have cR:(k:Int)<=9223372036854775807:=by omega
   obtain⟨M,hM⟩:∃M,1+aA ((l.map (jA n)).take k)=M:=⟨_,rfl⟩
   have qb:M<=200000:=by have h1:=eo (l.map (jA n)) k;have h2:=eK.out;simp only[jA]at h2;omega
   by_cases aE:k<l.length
   ·obtain⟨b,o,c,he,cQ,gq,iE,ns',ls',bT,bf⟩:=hr.out.at k aE
    have cy:=Value.slice.inj he;obtain⟨rfl,_,rfl⟩:=cy;clear he;have bF:(k:Int)<(l.length:Int):=by omega
    have cR:(k:Int)<9223372036854775807:=by omega
    obtain⟨c0,c1,c2,c3,c4,c5,c6,c7,c8⟩:=fm (am bT hb.out cQ);have cA:=aa (bf.below hb.out);obtain⟨a1,m1,d1,a2,m2,d2,rfl,rfl⟩:=bf.shape;clear bT bf;have jo:jA n l[k]<=200000:=by have h1:=yx (x:=(h,l)) aE;have h2:=eK.out;simp only at h1;omega
    obtain⟨D,hD⟩:∃D,jA n l[k]=D:=⟨_,rfl⟩
    have eL:=cZ (l.map (jA n)) k (by simpa using aE);rw[List.getElem_map,hD]at eL;have hcall:=aa (fun o=>ih'.out l[k] (.slice a1 m1 d1) (.slice a2 m2 d2) (wr.alloc o) (cA.out.below (ab af)) jo);rw[hD]at hcall jo;have eL:1+aA ((l.map (jA n)).take (k+1))=M+D:=by omega
    rw[hM];have ea:=aa eL;have Cg:(D:Int)<=200000:=by omega
    have TD:(M:Int)<=200000:=by omega
    clear hD hM jo eL qb;go_wp2_with(go_at_call 138;refine(hcall.out _).mono ?_;rintro e w1 ⟨rfl,ai⟩)
    exact⟨⟨k+1,by rw[ea.out];first|rfl|(congr 1),by go_num,by omega,ac (ab hb.out) ai⟩,by simp[intOf];omega⟩
   have bF:¬((k:Int)<(l.length:Int)):=by omega
   have hD:jA (n+1) (h,l)=M:=by rw[<-hM];simp only[jA];rw[List.take_of_length_le (by simp;omega)]
   rw[hM];have jP:=aa hD;clear hD hM qb;go_wp2_with fail
   go_ret;exact⟨by rw[jP.out];rfl,hb.out⟩
