import Derived.Test.YtcnfchblfcfimaaGreatDoorUZh06
set_option linter.all false
namespace Go.Proofs.YtcnfchblfcfimaaGreatDoor
namespace Lx
def eD(c:UInt8):Bool:=decide (97<=c.toNat/\c.toNat<=122)||decide (65<=c.toNat/\c.toNat<=90)||c.toNat==95
def isDig(c:UInt8):Bool:=decide (48<=c.toNat/\c.toNat<=57)
def dw(c:UInt8):Bool:=eD c||isDig c
def cT(c:UInt8):Bool:=isDig c||c.toNat==46||c.toNat==101||c.toNat==69||c.toNat==43||c.toNat==45
def gS(c:UInt8):Bool:=c.toNat==46||c.toNat==59||c.toNat==44||c.toNat==58||c.toNat==61||c.toNat==40||c.toNat==41||c.toNat==91||c.toNat==93||c.toNat==123||c.toNat==125
def zh(c:UInt8):Bool:=c.toNat==32||c.toNat==9||c.toNat==10||c.toNat==13
def fW(c:UInt8):Bool:=!(c.toNat==10)
def wh(p:UInt8->Bool):List UInt8->Nat
 | []=>0
 |c::l=>if p c then wh p l+1 else 0
def Bz:List UInt8->Nat
 | []=>0
 |c::l=>if c.toNat=35 then wh fW (c::l) else if zh c then 1 else 0
def uM:List UInt8->Nat
 | []=>0
 |c::l=>if isDig c then 0 else wh dw (c::l)
def uL(ok:List UInt8->Bool):List UInt8->Nat
 | []=>0
 |c::l=>if !(c.toNat==45) && !isDig c then 0 else if ok ((c::l).take (wh cT (c::l))) then wh cT (c::l) else 0
def cf:List UInt8->Nat
 | []=>0
 |c::l=>if gS c then 1 else 0
def Gb(c:UInt8):Option Nat:=if 48<=c.toNat/\c.toNat<=57 then some (c.toNat-48) else if 97<=c.toNat/\c.toNat<=102 then some (c.toNat-87) else if 65<=c.toNat/\c.toNat<=70 then some (c.toNat-55) else none
def ov(n:Nat):List UInt8->Option Nat
 | []=>some n
 |c::l=>match Gb c with
  |none=>none
  |some d=>ov (16*n+d) l
def Ck(l:List UInt8):Option (List UInt8×Nat) :=
 if l.length<4 then none else match ov 0 (l.take 4)with
 |none=>none
 |some r=>if Utf8.valid (r:Int) then some (Ut.bl (Utf8.encode (r:Int)),6) else none
def vx:List UInt8->Option (List UInt8×Nat)
 | []=>none
 |c::l=>if c.toNat=34\/c.toNat=92 then some ([c],2) else if c.toNat=117 then Ck l else none
def vS:List UInt8->Option (List UInt8×Nat)
 | []=>none
 |c::l=>if c.toNat=92 then vx l else if c.toNat<32 then none else match Ut.chr (c::l)with
  |none=>none
  |some (_,n)=>some ((c::l).take n,n)
def tZ:Nat->List UInt8->Option (List UInt8×Nat)
 |0,_=>none
 |_+1,[]=>none
 |f+1,c::l=>if c.toNat=34 then some ([],1) else match vS (c::l)with
  |none=>none
  |some (s,n)=>match tZ f ((c::l).drop n)with
   |none=>none
   |some (s',m)=>some (s++s',n+m)
def wJ:List UInt8->Option (List UInt8×Nat)
 | []=>none
 |c::l=>if c.toNat=34 then (match tZ l.length l with
  |none=>none
  |some (s,n)=>some (s,n+1)) else none
def eZ(ok:List UInt8->Bool)(k:Nat)(l:List UInt8):List UInt8×Nat :=
 if k=0 then ([],Bz l) else if k=1 then (l.take (uM l),uM l) else if k=2 then (l.take (uL ok l),uL ok l) else if k=3 then (wJ l).getD ([],0) else if k=4 then (l.take (cf l),cf l) else ([],0)
def mg(ok:List UInt8->Bool)(l:List UInt8):Nat->Nat->Option (Nat×List UInt8×Nat)
 |0,_=>none
 |f+1,k=>if (eZ ok k l).2=0 then mg ok l f (k+1) else some (k,(eZ ok k l).1,(eZ ok k l).2)
def ym(ok:List UInt8->Bool)(l:List UInt8):Option (Nat×List UInt8×Nat):=mg ok l 5 0
theorem og(p:UInt8->Bool):∀l,wh p l<=l.length
 | []=>Nat.le_refl _
 |c::l=>by have:=og p l;simp only[wh,List.length_cons];split<;>omega
theorem Cr(p:UInt8->Bool)(b:UInt8)(t:List UInt8)(hp:p b=false):∀l,wh p (l++b::t)=wh p l
 | []=>by simp[wh,hp]
 |c::l=>by simp only[List.cons_append,wh];rw[Cr p b t hp l]
theorem GD(p:UInt8->Bool)(l t:List UInt8):(l++t).take (wh p l)=l.take (wh p l):=List.take_append_of_le_length (og p l)
theorem ID{l:List UInt8}{r n:Nat}(h:Ut.chr l=some (r,n))(t:List UInt8):Ut.chr (l++t)=some (r,n):=by obtain⟨n1,n4,nl,_,hv,hb⟩:=Ut.chr_some h;have h2:=Ut.chr_encode r hv (l.drop n++t);rw[hb,<-List.append_assoc,List.take_append_drop,List.length_take,Nat.min_eq_left nl]at h2;exact h2
theorem Ow(p:Ut.St)(hp:p≠.i8):Ut.nx p 10=none:=by cases p<;>first|exact absurd rfl hp|rfl
theorem MD{c:UInt8}{l:List UInt8}(t:List UInt8)(h:Ut.chr (c::l)=none):Ut.chr (c::l++10::t)=none:=by
 cases hc:Ut.chr (c::l++10::t)with
 |none=>rfl
 |some rn=>
  obtain⟨r,n⟩:=rn;obtain⟨n1,n4,nl,hr,hv,hb⟩:=Ut.chr_some hc;exfalso;by_cases hn:n<=(c::l).length
  ·rw[List.take_append_of_le_length hn]at hr hb
   have h2:=Ut.chr_encode r hv ((c::l).drop n);rw[hb,List.take_append_drop]at h2;rw[h]at h2;cases h2
  have pY:(c::l++10::t).take n=(c::l)++(10::t).take (n-(c::l).length):=by rw[List.take_append,List.take_of_length_le (by omega)]
  rw[pY]at hr;obtain⟨k,hk⟩:∃k,n-(c::l).length=k+1:=⟨n-(c::l).length-1,by omega⟩
  rw[hk,List.take_succ_cons]at hr;rcases Ut.chr_none (List.cons_ne_nil c l) h with e|⟨p,hp,e,_⟩
  ·rw[Ut.run_app_no e]at hr;cases hr
  rw[Ut.run_app e,Ut.run_cons_no (Ow p hp)]at hr;cases hr
theorem Lr(a:Nat)(t:List UInt8):∀l:List UInt8,ov a (l++10::t)=none:=by
 intro l
 induction l generalizing a with
 |nil=>rfl
 |cons c l ih=>
  simp only[ov,List.cons_append];cases hc:Gb c with
  |none=>rfl
  |some d=>exact ih _
theorem MK(l t:List UInt8):Ck (l++10::t)=Ck l:=by
 unfold Ck;by_cases h:l.length<4
 ·rw[if_pos h]
  split
  ·rfl
  have:∃k,4-l.length=k+1:=⟨3-l.length,by omega⟩
  obtain⟨k,hk⟩:=this;rw[List.take_append,hk,List.take_succ_cons,Lr]
 rw[if_neg h,if_neg (by simp;omega),List.take_append_of_le_length (by omega)]
theorem ME{c:UInt8}{l:List UInt8}(t:List UInt8):vS (c::l++10::t)=vS (c::l):=by
 simp only[vS,List.cons_append]
 split
 ·cases l with
  |nil=>rfl
  |cons d l=>
   simp only[List.cons_append,vx];rw[MK]
 split
 ·rfl
 cases h:Ut.chr (c::l)with
 |none=>have:=MD t h;simp only[List.cons_append]at this;rw[this]
 |some rn=>
  obtain⟨r,n⟩:=rn;have:=ID h (10::t);simp only[List.cons_append]at this;rw[this];simp only;have hn:=(Ut.chr_some h).2.2.1;rw[<-List.cons_append,List.take_append_of_le_length hn]
theorem QA{l s:List UInt8}{n:Nat}(h:Ck l=some (s,n)):n=6/\4<=l.length:=by
 unfold Ck at h
 split at h
 ·cases h
 split at h
 ·cases h
 split at h
 ·simp only[Option.some.injEq,Prod.mk.injEq]at h;exact⟨h.2.symm,by omega⟩
 cases h
theorem vD{c:UInt8}{l s:List UInt8}{n:Nat}(h:vS (c::l)=some (s,n)):1<=n/\n<=(c::l).length:=by
 simp only[vS]at h
 split at h
 ·cases l with
  |nil=>cases h
  |cons d l=>
   simp only[vx]at h
   split at h
   ·cases h;simp
   split at h
   ·have:=QA h;simp only[List.length_cons];omega
   cases h
 split at h
 ·cases h
 split at h
 ·cases h
 rename_i r m hc;cases h;obtain⟨n1,n4,nl,_⟩:=Ut.chr_some hc;exact⟨n1,nl⟩
theorem pm:∀(f:Nat) (l:List UInt8),l.length<=f->tZ f l=tZ l.length l
 |0,l,h=>by have:l=[]:=List.length_eq_zero_iff.1 (by omega);subst this;rfl
 |f+1,[],h=>rfl
 |f+1,c::l,h=>by
  simp only[List.length_cons]at h;simp only[tZ,List.length_cons]
  split
  ·rfl
  cases hc:vS (c::l)with
  |none=>rfl
  |some sn=>
   obtain⟨s,n⟩:=sn;have hn:=vD hc;simp only;have hd:((c::l).drop n).length<=l.length:=by rw[List.length_drop,List.length_cons];omega
   rw[pm f _ (by omega),pm l.length _ hd]
theorem Gv(f:Nat):tZ f []=none:=by cases f<;>rfl
theorem Jc:∀(f:Nat) (l s:List UInt8) (n:Nat),tZ f l=some (s,n)->1<=n/\n<=l.length
 |0,l,s,n,h=>by cases h
 |f+1,[],s,n,h=>by cases h
 |f+1,c::l,s,n,h=>by
  simp only[tZ]at h
  split at h
  ·cases h;simp
  split at h
  ·cases h
  rename_i s1 n1 hc
  split at h
  ·cases h
  rename_i s2 n2 hu;cases h;have h1:=vD hc;have h2:=Jc f _ _ _ hu;rw[List.length_drop]at h2;omega
theorem Cv(t:List UInt8):∀(f:Nat) (l:List UInt8),l.length<=f->tZ (f+1+t.length) (l++10::t)=tZ f l
 |f,[],h=>by
  rw[Gv];have:f+1+t.length=(f+t.length)+1:=by omega
  rw[this];simp[tZ,vS]
 |0,c::l,h=>by simp at h
 |f+1,c::l,h=>by
  have e:f+1+1+t.length=(f+1+t.length)+1:=by omega
  rw[e];simp only[tZ,List.cons_append]
  split
  ·rfl
  have:=ME (c:=c) (l:=l) t;simp only[List.cons_append]at this;rw[this];cases hc:vS (c::l)with
  |none=>rfl
  |some sn=>
   obtain⟨s,n⟩:=sn;have hn:=vD hc;simp only;have hd:(c::(l++10::t)).drop n=(c::l).drop n++10::t:=by rw[<-List.cons_append,List.drop_append_of_le_length hn.2]
   rw[hd,Cv t f _ (by rw[List.length_drop];simp only[List.length_cons]at h ⊢;omega)]
theorem IB(ok:List UInt8->Bool)(k:Nat)(c:UInt8)(l t:List UInt8):eZ ok k (c::l++10::t)=eZ ok k (c::l):=by
 unfold eZ;have hw:∀p:UInt8->Bool,p 10=false->wh p (c::(l++10::t))=wh p (c::l):=fun p hp=>by rw[<-List.cons_append];exact Cr p 10 t hp _
 have e0:Bz (c::l++10::t)=Bz (c::l):=by simp only[Bz,List.cons_append];rw[hw fW (by rfl)]
 have e1:uM (c::l++10::t)=uM (c::l):=by simp only[uM,List.cons_append];rw[hw dw (by rfl)]
 have e2:uL ok (c::l++10::t)=uL ok (c::l):=by simp only[uL,List.cons_append];rw[hw cT (by rfl),<-List.cons_append,GD]
 have e4:cf (c::l++10::t)=cf (c::l):=by simp only[cf,List.cons_append]
 have e3:wJ (c::l++10::t)=wJ (c::l):=by
  simp only[wJ,List.cons_append]
  split
  ·have:(l++10::t).length=l.length+1+t.length:=by simp;omega
   rw[this,Cv t _ _ (Nat.le_refl _)]
  rfl
 have z1:uM (c::l)<=(c::l).length:=by simp only[uM];split;exact Nat.zero_le _;exact og _ _
 have z2:uL ok (c::l)<=(c::l).length:=by simp only[uL];split;exact Nat.zero_le _;split;exact og _ _;exact Nat.zero_le _
 have z4:cf (c::l)<=(c::l).length:=by simp only[cf];split<;>simp
 rw[e0,e1,e2,e3,e4,List.take_append_of_le_length z1,List.take_append_of_le_length z2,List.take_append_of_le_length z4]
theorem zC(ok:List UInt8->Bool)(c:UInt8)(l t:List UInt8):∀f k,mg ok (c::l++10::t) f k=mg ok (c::l) f k
 |0,_=>rfl
 |f+1,k=>by simp only[mg];rw[IB,zC ok c l t f (k+1)]
theorem Kb(ok:List UInt8->Bool)(c:UInt8)(l t:List UInt8):ym ok (c::l++10::t)=ym ok (c::l):=zC ok c l t 5 0
theorem tC(ok:List UInt8->Bool)(k:Nat)(c:UInt8)(l:List UInt8):(eZ ok k (c::l)).2<=(c::l).length:=by
 have z0:Bz (c::l)<=(c::l).length:=by simp only[Bz];split;exact og _ _;split<;>simp
 have z1:uM (c::l)<=(c::l).length:=by simp only[uM];split;exact Nat.zero_le _;exact og _ _
 have z2:uL ok (c::l)<=(c::l).length:=by simp only[uL];split;exact Nat.zero_le _;split;exact og _ _;exact Nat.zero_le _
 have z4:cf (c::l)<=(c::l).length:=by simp only[cf];split<;>simp
 have z3:((wJ (c::l)).getD ([],0)).2<=(c::l).length:=by
  simp only[wJ]
  split
  ·split
   ·exact Nat.zero_le _
   rename_i s n h;have:=Jc _ _ _ _ h;simp only[Option.getD_some,List.length_cons];omega
  exact Nat.zero_le _
 unfold eZ
 split
 ·exact z0
 split
 ·exact z1
 split
 ·exact z2
 split
 ·exact z3
 split
 ·exact z4
 exact Nat.zero_le _
theorem Fj(ok:List UInt8->Bool)(c:UInt8)(l:List UInt8):∀f k j s n,mg ok (c::l) f k=some (j,s,n)->1<=n/\n<=(c::l).length/\k<=j/\j<k+f/\eZ ok j (c::l)=(s,n)/\∀i,k<=i->i<j->(eZ ok i (c::l)).2=0
 |0,_,_,_,_,h=>by cases h
 |f+1,k,j,s,n,h=>by
  simp only[mg]at h
  split at h
  ·rename_i h0
   obtain⟨a,b,d,e,g,i⟩:=Fj ok c l f (k+1) j s n h;exact⟨a,b,by omega,by omega,g,fun q q1 q2=>by by_cases hq:q=k;subst hq;exact h0;exact i q (by omega) q2⟩
  rename_i h0;cases h;exact⟨by omega,tC ok k c l,Nat.le_refl _,by omega,rfl,fun i a b=>by omega⟩
theorem ub{ok:List UInt8->Bool}{c:UInt8}{l:List UInt8}{j:Nat}{s:List UInt8}{n:Nat}(h:ym ok (c::l)=some (j,s,n)):1<=n/\n<=(c::l).length/\j<5/\eZ ok j (c::l)=(s,n)/\∀i,i<j->(eZ ok i (c::l)).2=0:=by obtain⟨a,b,d,e,g,i⟩:=Fj ok c l 5 0 j s n h;exact⟨a,b,by omega,g,fun q q1=>i q (by omega) q1⟩
structure Tk where
 w:Int
 s:List UInt8
 p:Int
def wdK(k:Nat):Nat:=if k=1 then 1 else if k=2 then 3 else if k=3 then 2 else if k=4 then 4 else 0
def lgK(k:Nat):Nat:=if k=1 then 64 else if k=2 then 512 else if k=3 then 4096 else if k=4 then 1 else 0
def Jg(ok:List UInt8->Bool):Nat->List UInt8->Nat->List Tk->Sum (Nat×Nat) (List Tk)
 |_,[],_,acc=>.inr acc
 |0,_::_,_,_=>.inl (0,0)
 |f+1,c::l,p,acc=>match ym ok (c::l)with
  |none=>.inl (130,p)
  |some (k,s,n)=>if k=0 then Jg ok f ((c::l).drop n) (p+n) acc else if lgK k<s.length\/acc.length=1024 then .inl (2,p) else Jg ok f ((c::l).drop n) (p+n) (acc++[⟨wdK k,s,p⟩])
theorem yz(ok:List UInt8->Bool)(f p:Nat)(acc:List Tk):Jg ok f [] p acc=.inr acc:=by cases f<;>rfl
theorem iR(ok:List UInt8->Bool):∀(f:Nat) (l:List UInt8) (p:Nat) (acc:List Tk),l.length<=f->Jg ok f l p acc=Jg ok l.length l p acc
 |f,[],p,acc,h=>by rw[yz,yz]
 |0,c::l,p,acc,h=>by simp at h
 |f+1,c::l,p,acc,h=>by
  simp only[List.length_cons]at h;simp only[Jg,List.length_cons];cases hc:ym ok (c::l)with
  |none=>rfl
  |some x=>
   obtain⟨k,s,n⟩:=x;have hn:=ub hc;simp only;have hd:((c::l).drop n).length<=l.length:=by rw[List.length_drop,List.length_cons];omega
   rw[iR ok f _ _ _ (by omega),iR ok l.length _ _ _ hd];rw[iR ok f _ _ _ (by omega),iR ok l.length _ _ _ hd]
def iS(ok:List UInt8->Bool)(l:List UInt8)(p:Nat)(acc:List Tk):Sum (Nat×Nat) (List Tk):=Jg ok l.length l p acc
theorem um(ok:List UInt8->Bool)(p:Nat)(acc:List Tk):iS ok [] p acc=.inr acc:=rfl
theorem gB(ok:List UInt8->Bool)(c:UInt8)(l:List UInt8)(p:Nat)(acc:List Tk):iS ok (c::l) p acc=match ym ok (c::l)with
  |none=>.inl (130,p)
  |some (k,s,n)=>if k=0 then iS ok ((c::l).drop n) (p+n) acc else if lgK k<s.length\/acc.length=1024 then .inl (2,p) else iS ok ((c::l).drop n) (p+n) (acc++[⟨wdK k,s,p⟩]):=by
 unfold iS;simp only[Jg,List.length_cons];cases hc:ym ok (c::l)with
 |none=>rfl
 |some x=>
  obtain⟨k,s,n⟩:=x;have hn:=ub hc;have hd:((c::l).drop n).length<=l.length:=by rw[List.length_drop,List.length_cons];omega
  simp only;rw[iR ok l.length _ _ _ hd,iR ok l.length _ _ _ hd]
theorem CP(ok:List UInt8->Bool)(t:List UInt8):∀(m:Nat) (l:List UInt8) (p:Nat) (acc:List Tk),l.length<=m->iS ok (l++10::t) p acc=match iS ok l p acc with
  | .inl e=>.inl e
  | .inr a=>iS ok (10::t) (p+l.length) a
 |m,[],p,acc,h=>by simp[um]
 |0,c::l,p,acc,h=>by simp at h
 |m+1,c::l,p,acc,h=>by
  simp only[List.length_cons]at h;have ht:=Kb ok c l t;simp only[List.cons_append]at ht ⊢;rw[gB,gB,ht];cases hc:ym ok (c::l)with
  |none=>rfl
  |some x=>
   obtain⟨k,s,n⟩:=x;have hn:=ub hc;simp only;have hd:((c::l).drop n).length<=m:=by rw[List.length_drop,List.length_cons];omega
   have e:(c::(l++10::t)).drop n=(c::l).drop n++10::t:=by rw[<-List.cons_append,List.drop_append_of_le_length hn.2.1]
   have el:∀q,q+n+((c::l).drop n).length=q+(c::l).length:=fun q=>by rw[List.length_drop];have:=hn.2.1;omega
   rw[e,CP ok t m _ _ _ hd,CP ok t m _ _ _ hd,el]
   split
   ·rfl
   split
   ·rfl
   rfl
theorem pj{p:UInt8->Bool}:∀ {l:List UInt8},(∀c∈l,p c=true)->wh p l=l.length
 | [],_=>rfl
 |c::l,h=>by simp only[wh,h c (by simp),if_true,List.length_cons];rw[pj fun d hd=>h d (by simp[hd])]
def sh(d:Nat)(t:Tk):Tk:=⟨t.w,t.s,t.p+(d:Int)⟩
theorem rR(ok:List UInt8->Bool):∀(m:Nat) (l:List UInt8) (p:Nat) (acc:List Tk) (e q:Nat),l.length<=m->iS ok l p acc=.inl (e,q)->(e=2\/e=130)/\p<=q/\q<=p+l.length
 |m,[],p,acc,e,q,h,hz=>by cases hz
 |0,c::l,p,acc,e,q,h,hz=>by simp at h
 |m+1,c::l,p,acc,e,q,h,hz=>by
  simp only[List.length_cons]at h;rw[gB]at hz;cases hc:ym ok (c::l)with
  |none=>rw[hc]at hz;cases hz;exact⟨Or.inr rfl,by omega,by omega⟩
  |some x=>
   obtain⟨k,s,n⟩:=x;have hn:=ub hc;rw[hc]at hz;simp only at hz;have hd:((c::l).drop n).length<=m:=by rw[List.length_drop,List.length_cons];omega
   have hl:((c::l).drop n).length=(c::l).length-n:=List.length_drop
   split at hz
   ·have:=rR ok m _ _ _ _ _ hd hz;omega
   split at hz
   ·cases hz;exact⟨Or.inl rfl,by omega,by omega⟩
   have:=rR ok m _ _ _ _ _ hd hz;omega
theorem oW(ok:List UInt8->Bool):∀(m:Nat) (l:List UInt8) (p:Nat) (acc r:List Tk),l.length<=m->iS ok l p acc=.inr r->acc.length<=1024->∃x,r=acc++x/\r.length<=1024/\x.length<=l.length/\(∀t∈x,t.s.length<=4096/\p<=t.p/\t.p<=p+l.length/\0<=t.w/\t.w<=4)
 |m,[],p,acc,r,h,hz,ha=>by rw[um]at hz;cases hz;exact⟨[],by simp,ha,by simp,by simp⟩
 |0,c::l,p,acc,r,h,hz,ha=>by simp at h
 |m+1,c::l,p,acc,r,h,hz,ha=>by
  simp only[List.length_cons]at h;rw[gB]at hz;cases hc:ym ok (c::l)with
  |none=>rw[hc]at hz;cases hz
  |some x=>
   obtain⟨k,s,n⟩:=x;have hn:=ub hc;rw[hc]at hz;simp only at hz;have hd:((c::l).drop n).length<=m:=by rw[List.length_drop,List.length_cons];omega
   have hl:((c::l).drop n).length=(c::l).length-n:=List.length_drop
   split at hz
   ·obtain⟨x,h1,h2,h3,h4⟩:=oW ok m _ _ _ _ hd hz ha
    exact⟨x,h1,h2,by omega,fun t ht=>by have:=h4 t ht;omega⟩
   split at hz
   ·cases hz
   rename_i hq;have Ra:lgK k<=4096:=by unfold lgK;(repeat' split)<;>omega
   have Xu:wdK k<=4:=by unfold wdK;(repeat' split)<;>omega
   obtain⟨x,h1,h2,h3,h4⟩:=oW ok m _ _ _ _ hd hz (by simp;omega);refine⟨⟨wdK k,s,p⟩::x,by rw[h1];simp,h2,by simp only[List.length_cons]at hl ⊢;omega,fun t ht=>?_⟩;rcases List.mem_cons.1 ht with rfl|ht
   ·exact⟨by simp only;omega,by simp,by simp only[List.length_cons];omega,by simp,by simp only;omega⟩
   have:=h4 t ht;omega
def Nh(d:Nat):UInt8:=if d<10 then UInt8.ofNat (48+d) else UInt8.ofNat (87+d)
def zG(c:UInt8):List UInt8:=if c.toNat=34\/c.toNat=92 then [92,c] else if c.toNat<32 then [92,117,48,48,Nh (c.toNat/16),Nh (c.toNat%16)] else [c]
def qu(l:List UInt8):List UInt8:=l.flatMap zG
def rY(l:List UInt8):List UInt8:=34::(qu l++[34])
def okT(l:List UInt8):Bool:=decide (Ut.run .i8 l=some .i8)
def mq(w:Int):Nat:=if w=1 then 1 else if w=3 then 2 else if w=2 then 3 else if w=4 then 4 else 0
def mZ(ok:List UInt8->Bool)(w:Int)(s:List UInt8):Bool:=if mq w=0 then false else if mq w=3 then okT s else if s=[] then false else (eZ ok (mq w) s).2==s.length
def NT(w:Int)(s:List UInt8):List UInt8:=if w=2 then rY s else s
theorem Fp(c:UInt8)(l:List UInt8):qu (c::l)=zG c++qu l:=by simp[qu]
theorem Iu(a b:List UInt8):qu (a++b)=qu a++qu b:=by simp[qu]
def jn:List (List UInt8)->List UInt8
 | []=>[]
 | [a]=>a
 |a::b::r=>a++32::jn (b::r)
def cF(t:Tk):List UInt8:=NT t.w t.s
def Vc(a b:List Tk):Prop:=a.map (fun t=>(t.w,t.s))=b.map (fun t=>(t.w,t.s))
end Lx
