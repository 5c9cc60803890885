import GoSem.Core.Utf8
import GoSem.Core.Value
import Derived.Laws.RangeAny
set_option linter.all false
set_option maxRecDepth 100000
namespace Go.Proofs.YtcnfchblfcfimaaGreatDoor.Ut
def bl(s:ByteArray):List UInt8:=s.data.toList
theorem bl_length(s:ByteArray):(bl s).length=s.size:=by show s.data.toList.length=s.data.size;simp
theorem bH(s:ByteArray)(k:Nat)(h:k<s.size):(bl s)[k]'(by rw[bl_length];exact h)=s[k]:=by simp[bl];rfl
abbrev St:=IntKind
def nx(p:St)(n:Nat):Option St:=match p with
 | .i8=>if n<128 then some .i8 else if n<194 then none else if n<224 then some .i16 else if n=224 then some .u8 else if n=237 then some .u16 else if n<240 then some .i32
  else if n=240 then some .u32 else if n<244 then some .i64 else if n=244 then some .u64 else none
 | .i16=>if 128<=n/\n<=191 then some .i8 else none
 | .i32=>if 128<=n/\n<=191 then some .i16 else none
 | .i64=>if 128<=n/\n<=191 then some .i32 else none
 | .u8=>if 160<=n/\n<=191 then some .i16 else none
 | .u16=>if 128<=n/\n<=159 then some .i16 else none
 | .u32=>if 144<=n/\n<=191 then some .i32 else none
 | .u64=>if 128<=n/\n<=143 then some .i32 else none
def run:St->List UInt8->Option St
 |p,[]=>some p
 |p,b::l=>match nx p b.toNat with
  |none=>none
  |some q=>run q l
theorem GN(p:St):run p []=some p:=rfl
theorem bD{p q:St}{b:UInt8}{l:List UInt8}(h:nx p b.toNat=some q):run p (b::l)=run q l:=by simp[run,h]
theorem run_cons_no{p:St}{b:UInt8}{l:List UInt8}(h:nx p b.toNat=none):run p (b::l)=none:=by simp[run,h]
theorem run_app{p q:St}{a l:List UInt8}(h:run p a=some q):run p (a++l)=run q l:=by
 induction a generalizing p with
 |nil=>simp only[run,Option.some.injEq]at h;subst h;rfl
 |cons b a ih=>
  cases hn:nx p b.toNat with
  |none=>rw[run_cons_no hn]at h;cases h
  |some r=>rw[bD hn]at h;rw[List.cons_append,bD hn];exact ih h
theorem run_app_no{p:St}{a l:List UInt8}(h:run p a=none):run p (a++l)=none:=by
 induction a generalizing p with
 |nil=>cases h
 |cons b a ih=>
  cases hn:nx p b.toNat with
  |none=>rw[List.cons_append,run_cons_no hn]
  |some r=>rw[bD hn]at h;rw[List.cons_append,bD hn];exact ih h
def ct(n:Nat):Bool:=n/64==2
theorem ju(n:Nat):ct n=true↔128<=n/\n<=191:=by unfold ct;rw[beq_iff_eq];omega
def chr:List UInt8->Option (Nat×Nat)
 | []=>none
 |a::l=>
  if a.toNat<128 then some (a.toNat,1) else
  match l with
  | []=>none
  |b::l=>
   if a.toNat/32==6&&ct b.toNat then (if 128<=a.toNat%32*64+b.toNat%64 then some (a.toNat%32*64+b.toNat%64,2) else none) else
   match l with
   | []=>none
   |c::l=>
    if a.toNat/16==14&&ct b.toNat&&ct c.toNat then (if 2048<=a.toNat%16*4096+b.toNat%64*64+c.toNat%64/\Utf8.valid ((a.toNat%16*4096+b.toNat%64*64+c.toNat%64:Nat):Int)=true then some (a.toNat%16*4096+b.toNat%64*64+c.toNat%64,3) else none) else
    match l with
    | []=>none
    |d::_=>
     if a.toNat/8==30&&ct b.toNat&&ct c.toNat&&ct d.toNat then (if 65536<=a.toNat%8*262144+b.toNat%64*4096+c.toNat%64*64+d.toNat%64/\Utf8.valid ((a.toNat%8*262144+b.toNat%64*4096+c.toNat%64*64+d.toNat%64:Nat):Int)=true then some (a.toNat%8*262144+b.toNat%64*4096+c.toNat%64*64+d.toNat%64,4) else none) else none
theorem qQ(s:ByteArray)(i:Nat)(a:UInt8)(l:List UInt8)(h:(bl s).drop i=a::l)(k:Nat):s.get! (i+k)=(((a::l)[k]?).getD default)/\(decide (i+k<s.size)=decide (k<(a::l).length)):=by
 have hl:(a::l).length=s.size-i:=by rw[<-h,List.length_drop,bl_length]
 constructor
 ·have:(a::l)[k]?=(bl s)[i+k]?:=by rw[<-h,List.getElem?_drop]
  rw[this];show s.data[i+k]! = _;simp[bl,getElem!_def]
  split<;>simp_all
 rw[hl];have:0<(a::l).length:=by simp
 congr 1
 apply propext;constructor<;>intro _<;>omega
theorem qh(s:ByteArray)(i:Nat)(h:i<s.size):Utf8.decode s i=(chr ((bl s).drop i)).getD (65533,1):=by
 cases hd:(bl s).drop i with
 |nil=>have:=congrArg List.length hd;rw[List.length_drop,bl_length]at this;simp at this;omega
 |cons a l=>
  have g:=qQ s i a l hd;have g0:=(g 0).1;have g1:=g 1;have g2:=g 2;have g3:=g 3
  match l with
  | []=>
   simp[decide_eq_decide]at g0 g1 g2 g3;have e1:decide (i+1<s.size)=false:=decide_eq_false (by omega);have e2:decide (i+2<s.size)=false:=decide_eq_false (by omega);have e3:decide (i+3<s.size)=false:=decide_eq_false (by omega);simp only[Utf8.decode,Utf8.runeError,Nat.add_zero,e1,e2,e3,g0,Bool.false_and,Bool.and_false,chr]
   split<;>simp
  | [b]=>
   simp[decide_eq_decide]at g0 g1 g2 g3;have e1:decide (i+1<s.size)=true:=decide_eq_true (by omega);have e2:decide (i+2<s.size)=false:=decide_eq_false (by omega);have e3:decide (i+3<s.size)=false:=decide_eq_false (by omega);simp only[Utf8.decode,Utf8.runeError,Nat.add_zero,e1,e2,e3,g0,g1.1,Bool.false_and,Bool.and_false,Bool.true_and,chr,ct]
   repeat' split
   all_goals simp_all [-not_and]
  | [b,c]=>
   simp[decide_eq_decide]at g0 g1 g2 g3;have e1:decide (i+1<s.size)=true:=decide_eq_true (by omega);have e2:decide (i+2<s.size)=true:=decide_eq_true (by omega);have e3:decide (i+3<s.size)=false:=decide_eq_false (by omega);simp only[Utf8.decode,Utf8.runeError,Nat.add_zero,e1,e2,e3,g0,g1.1,g2.1,Bool.false_and,Bool.and_false,Bool.true_and,chr,ct]
   repeat' split
   all_goals simp_all [-not_and]
  |b::c::d::l=>
   simp[decide_eq_decide]at g0 g1 g2 g3;have e1:decide (i+1<s.size)=true:=decide_eq_true (by omega);have e2:decide (i+2<s.size)=true:=decide_eq_true (by omega);have e3:decide (i+3<s.size)=true:=decide_eq_true (by omega);simp only[Utf8.decode,Utf8.runeError,Nat.add_zero,e1,e2,e3,g0,g1.1,g2.1,g3.1,Bool.false_and,Bool.and_false,Bool.true_and,chr,ct]
   repeat' split
   all_goals simp_all [-not_and]
theorem yK{n:Nat}{q:St}(h:nx .i8 n=some q):(q=.i8/\n<128)\/(q=.i16/\194<=n/\n<=223)\/(q=.u8/\n=224)\/(q=.u16/\n=237)\/(q=.i32/\225<=n/\n<=239/\n≠237)\/(q=.u32/\n=240)\/(q=.i64/\241<=n/\n<=243)\/(q=.u64/\n=244):=by
 simp only[nx]at h
 repeat' split at h
 all_goals simp only[Option.some.injEq,reduceCtorEq]at h
 all_goals (subst h;simp;try omega)
theorem cY(r:Nat):Utf8.valid (r:Int)=true↔r<55296\/(57344<=r/\r<=1114111):=by simp only[Utf8.valid,Bool.or_eq_true,Bool.and_eq_true,decide_eq_true_eq];omega
theorem FE(a:UInt8)(t:List UInt8)(h:a.toNat<128):chr (a::t)=some (a.toNat,1):=by simp[chr,h]
theorem JS(a b:UInt8)(t:List UInt8)(h1:194<=a.toNat)(h2:a.toNat<=223)(hb:128<=b.toNat/\b.toNat<=191):chr (a::b::t)=some (a.toNat%32*64+b.toNat%64,2):=by
 have e1:(a.toNat/32==6)=true:=by rw[beq_iff_eq];omega
 simp only[chr,e1,(ju _).2 hb,Bool.and_self,if_true];rw[if_neg (by omega),if_pos (by omega)]
theorem FD(a b c:UInt8)(t:List UInt8)(h1:224<=a.toNat)(h2:a.toNat<=239)(hb:128<=b.toNat/\b.toNat<=191)(hc:128<=c.toNat/\c.toNat<=191)(g0:a.toNat=224->160<=b.toNat)(g1:a.toNat=237->b.toNat<=159):chr (a::b::c::t)=some (a.toNat%16*4096+b.toNat%64*64+c.toNat%64,3):=by
 have e1:(a.toNat/32==6)=false:=by rw[beq_eq_false_iff_ne];omega
 have e2:(a.toNat/16==14)=true:=by rw[beq_iff_eq];omega
 simp only[chr,e1,e2,(ju _).2 hb,(ju _).2 hc,Bool.and_self,if_true,Bool.false_and];rw[if_neg (by omega),if_neg (by simp),if_pos ⟨by omega,(cY _).2 (by omega)⟩]
theorem JR(a b c d:UInt8)(t:List UInt8)(h1:240<=a.toNat)(h2:a.toNat<=244)(hb:128<=b.toNat/\b.toNat<=191)(hc:128<=c.toNat/\c.toNat<=191)(hd:128<=d.toNat/\d.toNat<=191)(g0:a.toNat=240->144<=b.toNat)(g1:a.toNat=244->b.toNat<=143):chr (a::b::c::d::t)=some (a.toNat%8*262144+b.toNat%64*4096+c.toNat%64*64+d.toNat%64,4):=by
 have e1:(a.toNat/32==6)=false:=by rw[beq_eq_false_iff_ne];omega
 have e2:(a.toNat/16==14)=false:=by rw[beq_eq_false_iff_ne];omega
 have e3:(a.toNat/8==30)=true:=by rw[beq_iff_eq];omega
 simp only[chr,e1,e2,e3,(ju _).2 hb,(ju _).2 hc,(ju _).2 hd,Bool.and_self,if_true,Bool.false_and];rw[if_neg (by omega),if_neg (by simp),if_neg (by simp),if_pos ⟨by omega,(cY _).2 (by omega)⟩]
theorem ja{l:List UInt8}{r n:Nat}(h:chr l=some (r,n)):(∃a t,l=a::t/\n=1/\a.toNat<128/\r=a.toNat) \/
  (∃a b t,l=a::b::t/\n=2/\194<=a.toNat/\a.toNat<=223/\(128<=b.toNat/\b.toNat<=191)/\r=a.toNat%32*64+b.toNat%64) \/
  (∃a b c t,l=a::b::c::t/\n=3/\224<=a.toNat/\a.toNat<=239/\(128<=b.toNat/\b.toNat<=191)/\(128<=c.toNat/\c.toNat<=191)/\(a.toNat=224->160<=b.toNat)/\(a.toNat=237->b.toNat<=159)/\r=a.toNat%16*4096+b.toNat%64*64+c.toNat%64) \/
  (∃a b c d t,l=a::b::c::d::t/\n=4/\240<=a.toNat/\a.toNat<=244/\(128<=b.toNat/\b.toNat<=191)/\(128<=c.toNat/\c.toNat<=191)/\(128<=d.toNat/\d.toNat<=191)/\(a.toNat=240->144<=b.toNat)/\(a.toNat=244->b.toNat<=143)/\r=a.toNat%8*262144+b.toNat%64*4096+c.toNat%64*64+d.toNat%64):=by
 cases l with
 |nil=>cases h
 |cons a l=>
  have ha:=a.toNat_lt;unfold chr at h;simp only at h;by_cases h1:a.toNat<128
  ·rw[if_pos h1]at h
   simp only[Option.some.injEq,Prod.mk.injEq]at h;exact Or.inl ⟨a,l,rfl,h.2.symm,h1,h.1.symm⟩
  rw[if_neg h1]at h;cases l with
  |nil=>cases h
  |cons b l=>
   simp only at h;by_cases h2:(a.toNat/32==6&&ct b.toNat)=true
   ·rw[if_pos h2]at h
    simp only[Bool.and_eq_true,beq_iff_eq,ju]at h2;by_cases h3:128<=a.toNat%32*64+b.toNat%64
    ·rw[if_pos h3]at h
     simp only[Option.some.injEq,Prod.mk.injEq]at h;exact Or.inr (Or.inl ⟨a,b,l,rfl,h.2.symm,by omega,by omega,h2.2,h.1.symm⟩)
    rw[if_neg h3]at h;cases h
   rw[if_neg h2]at h;cases l with
   |nil=>cases h
   |cons c l=>
    simp only at h;by_cases h4:(a.toNat/16==14&&ct b.toNat&&ct c.toNat)=true
    ·rw[if_pos h4]at h
     simp only[Bool.and_eq_true,beq_iff_eq,ju]at h4
     split at h
     ·rename_i h5
      have h6:=(cY _).1 h5.2;simp only[Option.some.injEq,Prod.mk.injEq]at h;exact Or.inr (Or.inr (Or.inl ⟨a,b,c,l,rfl,h.2.symm,by omega,by omega,h4.1.2,h4.2,by omega,by omega,h.1.symm⟩))
     cases h
    rw[if_neg h4]at h;cases l with
    |nil=>cases h
    |cons d l=>
     simp only at h;by_cases h7:(a.toNat/8==30&&ct b.toNat&&ct c.toNat&&ct d.toNat)=true
     ·rw[if_pos h7]at h
      simp only[Bool.and_eq_true,beq_iff_eq,ju]at h7
      split at h
      ·rename_i h5
       have h6:=(cY _).1 h5.2;simp only[Option.some.injEq,Prod.mk.injEq]at h;exact Or.inr (Or.inr (Or.inr ⟨a,b,c,d,l,rfl,h.2.symm,by omega,by omega,h7.1.1.2,h7.1.2,h7.2,by omega,by omega,h.1.symm⟩))
      cases h
     rw[if_neg h7]at h;cases h
theorem Dy{n:Nat}(h:128<=n/\n<=191):nx .i16 n=some .i8:=by simp[nx,h]
theorem Dx{n:Nat}(h:128<=n/\n<=191):nx .i32 n=some .i16:=by simp[nx,h]
theorem NW{a b:UInt8}(h1:224<=a.toNat)(h2:a.toNat<=239)(hb:128<=b.toNat/\b.toNat<=191)(g0:a.toNat=224->160<=b.toNat)(g1:a.toNat=237->b.toNat<=159):run .i8 [a,b]=some .i16:=by
 have e:nx .i8 a.toNat=some (if a.toNat=224 then .u8 else if a.toNat=237 then .u16 else .i32):=by
  simp only[nx]
  repeat' split
  all_goals first|rfl|omega
 rw[bD e];by_cases q:a.toNat=224
 ·rw[if_pos q];have:=g0 q;rw[bD (q:=.i16) (by simp only[nx];rw[if_pos (by omega)])];rfl
 rw[if_neg q];by_cases q':a.toNat=237
 ·rw[if_pos q'];have:=g1 q';rw[bD (q:=.i16) (by simp only[nx];rw[if_pos (by omega)])];rfl
 rw[if_neg q'];rw[bD (q:=.i16) (by simp only[nx];rw[if_pos (by omega)])];rfl
theorem NV{a b:UInt8}(h1:240<=a.toNat)(h2:a.toNat<=244)(hb:128<=b.toNat/\b.toNat<=191)(g0:a.toNat=240->144<=b.toNat)(g1:a.toNat=244->b.toNat<=143):run .i8 [a,b]=some .i32:=by
 have e:nx .i8 a.toNat=some (if a.toNat=240 then .u32 else if a.toNat=244 then .u64 else .i64):=by
  simp only[nx]
  repeat' split
  all_goals first|rfl|omega
 rw[bD e];by_cases q:a.toNat=240
 ·rw[if_pos q];have:=g0 q;rw[bD (q:=.i32) (by simp only[nx];rw[if_pos (by omega)])];rfl
 rw[if_neg q];by_cases q':a.toNat=244
 ·rw[if_pos q'];have:=g1 q';rw[bD (q:=.i32) (by simp only[nx];rw[if_pos (by omega)])];rfl
 rw[if_neg q'];rw[bD (q:=.i32) (by simp only[nx];rw[if_pos (by omega)])];rfl
theorem my{k:Nat}{a:UInt8}(h:k=a.toNat):UInt8.ofNat k=a:=by subst h;simp
theorem chr_some{l:List UInt8}{r n:Nat}(h:chr l=some (r,n)):1<=n/\n<=4/\n<=l.length/\run .i8 (l.take n)=some .i8/\Utf8.valid (r:Int)=true/\bl (Utf8.encode (r:Int))=l.take n:=by
 rcases ja h with⟨a,t,rfl,rfl,h1,rfl⟩|⟨a,b,t,rfl,rfl,h1,h2,hb,hr⟩|⟨a,b,c,t,rfl,rfl,h1,h2,hb,hc,g0,g1,hr⟩|⟨a,b,c,d,t,rfl,rfl,h1,h2,hb,hc,hd,g0,g1,hr⟩
 ·have hv:Utf8.valid ((a.toNat:Nat):Int)=true:=(cY _).2 (by omega)
  refine⟨by omega,by omega,by simp,?_,hv,?_⟩
  ·simp[run,nx,h1]
  simp only[Utf8.encode,hv,if_true,Int.toNat_natCast,h1];simp[bl]
 ·have hv:Utf8.valid (r:Int)=true:=(cY _).2 (by omega)
  refine⟨by omega,by omega,by simp,?_,hv,?_⟩
  ·have e:nx .i8 a.toNat=some .i16:=by
    simp only[nx]
    repeat' split
    all_goals first|rfl|omega
   simp[run,e,Dy hb]
  simp only[Utf8.encode,hv,if_true,Int.toNat_natCast];rw[if_neg (by omega),if_pos (by omega)];rw[my (a:=a) (by omega),my (a:=b) (by omega)];rfl
 ·have hv:Utf8.valid (r:Int)=true:=(cY _).2 (by omega)
  refine⟨by omega,by omega,by simp,?_,hv,?_⟩
  ·show run .i8 ([a,b]++[c])=_
   rw[run_app (NW h1 h2 hb g0 g1)];simp[run,Dy hc]
  simp only[Utf8.encode,hv,if_true,Int.toNat_natCast];rw[if_neg (by omega),if_neg (by omega),if_pos (by omega)];rw[my (a:=a) (by omega),my (a:=b) (by omega),my (a:=c) (by omega)];rfl
 have hv:Utf8.valid (r:Int)=true:=(cY _).2 (by omega);refine⟨by omega,by omega,by simp,?_,hv,?_⟩
 ·show run .i8 ([a,b]++[c,d])=_
  rw[run_app (NV h1 h2 hb g0 g1)];simp[run,Dx hc,Dy hd]
 simp only[Utf8.encode,hv,if_true,Int.toNat_natCast];rw[if_neg (by omega),if_neg (by omega),if_neg (by omega)];rw[my (a:=a) (by omega),my (a:=b) (by omega),my (a:=c) (by omega),my (a:=d) (by omega)];rfl
theorem wA(l:List UInt8):run .i16 l=none\/l=[]\/∃c t,l=c::t/\128<=c.toNat/\c.toNat<=191:=by
 cases l with
 |nil=>exact Or.inr (Or.inl rfl)
 |cons c t=>
  by_cases h:128<=c.toNat/\c.toNat<=191
  ·exact Or.inr (Or.inr ⟨c,t,rfl,h⟩)
  exact Or.inl (run_cons_no (by simp only[nx];rw[if_neg h]))
theorem Kg(l:List UInt8):run .i32 l=none\/l=[]\/(∃c,l=[c]/\128<=c.toNat/\c.toNat<=191)\/∃c d t,l=c::d::t/\(128<=c.toNat/\c.toNat<=191)/\128<=d.toNat/\d.toNat<=191:=by
 cases l with
 |nil=>exact Or.inr (Or.inl rfl)
 |cons c t=>
  by_cases h:128<=c.toNat/\c.toNat<=191
  ·rw[bD (Dx h)]
   rcases wA t with e|rfl|⟨d,t',rfl,hd⟩
   ·exact Or.inl e
   ·exact Or.inr (Or.inr (Or.inl ⟨c,rfl,h⟩))
   exact Or.inr (Or.inr (Or.inr ⟨c,d,t',rfl,h,hd⟩))
  exact Or.inl (run_cons_no (by simp only[nx];rw[if_neg h]))
theorem KK{a:UInt8}{q:St}(h:nx .i8 a.toNat=some q)(hq:q=.i32\/q=.u8\/q=.u16)(b:UInt8):nx q b.toNat=none\/(nx q b.toNat=some .i16/\224<=a.toNat/\a.toNat<=239/\(128<=b.toNat/\b.toNat<=191)/\(a.toNat=224->160<=b.toNat)/\(a.toNat=237->b.toNat<=159)):=by
 rcases yK h with⟨rfl,h⟩|⟨rfl,h⟩|⟨rfl,h⟩|⟨rfl,h⟩|⟨rfl,h⟩|⟨rfl,h⟩|⟨rfl,h⟩|⟨rfl,h⟩<;>simp at hq
 all_goals (simp only[nx];split<;>simp<;>omega)
theorem KJ{a:UInt8}{q:St}(h:nx .i8 a.toNat=some q)(hq:q=.i64\/q=.u32\/q=.u64)(b:UInt8):nx q b.toNat=none\/(nx q b.toNat=some .i32/\240<=a.toNat/\a.toNat<=244/\(128<=b.toNat/\b.toNat<=191)/\(a.toNat=240->144<=b.toNat)/\(a.toNat=244->b.toNat<=143)):=by
 rcases yK h with⟨rfl,h⟩|⟨rfl,h⟩|⟨rfl,h⟩|⟨rfl,h⟩|⟨rfl,h⟩|⟨rfl,h⟩|⟨rfl,h⟩|⟨rfl,h⟩<;>simp at hq
 all_goals (simp only[nx];split<;>simp<;>omega)
theorem chr_none{l:List UInt8}(hl:l≠[])(h:chr l=none):run .i8 l=none\/∃p,p≠.i8/\run .i8 l=some p/\l.length<=3:=by
 cases l with
 |nil=>exact absurd rfl hl
 |cons a l=>
  cases hn:nx .i8 a.toNat with
  |none=>exact Or.inl (run_cons_no hn)
  |some q=>
   rw[bD hn];have k3:(q=.i32\/q=.u8\/q=.u16)->run q l=none\/∃p,p≠.i8/\run q l=some p/\(a::l).length<=3:=by
    intro hq;cases l with
    |nil=>exact Or.inr ⟨q,by rcases hq with rfl|rfl|rfl<;>simp,rfl,by simp⟩
    |cons b l=>
     rcases KK hn hq b with e|⟨e,h1,h2,hb,g0,g1⟩
     ·exact Or.inl (run_cons_no e)
     rw[bD e];rcases wA l with e|rfl|⟨c,t,rfl,hc⟩
     ·exact Or.inl e
     ·exact Or.inr ⟨.i16,by simp,rfl,by simp⟩
     rw[FD a b c t h1 h2 hb hc g0 g1]at h;cases h
   have k4:(q=.i64\/q=.u32\/q=.u64)->run q l=none\/∃p,p≠.i8/\run q l=some p/\(a::l).length<=3:=by
    intro hq;cases l with
    |nil=>exact Or.inr ⟨q,by rcases hq with rfl|rfl|rfl<;>simp,rfl,by simp⟩
    |cons b l=>
     rcases KJ hn hq b with e|⟨e,h1,h2,hb,g0,g1⟩
     ·exact Or.inl (run_cons_no e)
     rw[bD e];rcases Kg l with e|rfl|⟨c,rfl,hc⟩|⟨c,d,t,rfl,hc,hd⟩
     ·exact Or.inl e
     ·exact Or.inr ⟨.i32,by simp,rfl,by simp⟩
     ·exact Or.inr ⟨.i16,by simp,by rw[bD (Dx hc)];rfl,by simp⟩
     rw[JR a b c d t h1 h2 hb hc hd g0 g1]at h;cases h
   rcases yK hn with⟨rfl,g⟩|⟨rfl,g⟩|⟨rfl,g⟩|⟨rfl,g⟩|⟨rfl,g⟩|⟨rfl,g⟩|⟨rfl,g⟩|⟨rfl,g⟩
   ·rw[FE a l g]at h;cases h
   ·rcases wA l with e|rfl|⟨c,t,rfl,hc⟩
    ·exact Or.inl e
    ·exact Or.inr ⟨.i16,by simp,rfl,by simp⟩
    rw[JS a c t g.1 g.2 hc]at h;cases h
   ·exact k3 (by simp)
   ·exact k3 (by simp)
   ·exact k3 (by simp)
   ·exact k4 (by simp)
   ·exact k4 (by simp)
   exact k4 (by simp)
theorem chr_encode(r:Nat)(hv:Utf8.valid (r:Int)=true)(t:List UInt8):chr (bl (Utf8.encode (r:Int))++t)=some (r,(bl (Utf8.encode (r:Int))).length):=by
 have hr:=(cY r).1 hv;have tn:∀k,k<256->(UInt8.ofNat k).toNat=k:=fun k hk=>by rw[UInt8.toNat_ofNat'];omega
 simp only[Utf8.encode,hv,if_true,Int.toNat_natCast];by_cases h1:r<128
 ·rw[if_pos h1]
  simp only[bl,List.cons_append,List.nil_append];rw[FE _ _ (by rw[tn _ (by omega)];exact h1),tn _ (by omega)];rfl
 rw[if_neg h1];by_cases h2:r<2048
 ·rw[if_pos h2]
  simp only[bl,List.cons_append,List.nil_append];rw[JS _ _ _ (by rw[tn _ (by omega)];omega) (by rw[tn _ (by omega)];omega) (by rw[tn _ (by omega)];omega),tn _ (by omega),tn _ (by omega)];simp;omega
 rw[if_neg h2];by_cases h3:r<65536
 ·rw[if_pos h3]
  simp only[bl,List.cons_append,List.nil_append];rw[FD _ _ _ _ (by rw[tn _ (by omega)];omega) (by rw[tn _ (by omega)];omega) (by rw[tn _ (by omega)];omega) (by rw[tn _ (by omega)];omega) (by rw[tn _ (by omega),tn _ (by omega)];omega) (by rw[tn _ (by omega),tn _ (by omega)];omega),tn _ (by omega),tn _ (by omega),tn _ (by omega)];simp;omega
 rw[if_neg h3];simp only[bl,List.cons_append,List.nil_append];rw[JR _ _ _ _ _ (by rw[tn _ (by omega)];omega) (by rw[tn _ (by omega)];omega) (by rw[tn _ (by omega)];omega) (by rw[tn _ (by omega)];omega) (by rw[tn _ (by omega)];omega) (by rw[tn _ (by omega),tn _ (by omega)];omega) (by rw[tn _ (by omega),tn _ (by omega)];omega),tn _ (by omega),tn _ (by omega),tn _ (by omega),tn _ (by omega)];simp;omega
