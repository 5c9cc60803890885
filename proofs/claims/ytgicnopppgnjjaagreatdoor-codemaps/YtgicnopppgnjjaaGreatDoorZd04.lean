/- Merged by program: AcSpell. -/
import Derived.Test.YtgicnopppgnjjaaGreatDoorUZd03
set_option linter.unusedSimpArgs false
set_option linter.unusedVariables false
namespace Go.Proofs.YtgicnopppgnjjaaGreatDoor
namespace Lx
def isLet (c:UInt8):Bool:=decide (97≤c.toNat∧c.toNat≤122) || decide (65≤c.toNat∧c.toNat≤90) || c.toNat==95
def isDig (c:UInt8):Bool:=decide (48≤c.toNat∧c.toNat≤57)
def inName (c:UInt8):Bool:=isLet c || isDig c
def inNum (c:UInt8):Bool:=isDig c || c.toNat==46 || c.toNat==101 || c.toNat==69 || c.toNat==43 || c.toNat==45
def isMark (c:UInt8):Bool:=c.toNat==46 || c.toNat==59 || c.toNat==44 || c.toNat==58 || c.toNat==61 || c.toNat==40 || c.toNat==41 || c.toNat==91 || c.toNat==93 || c.toNat==123 || c.toNat==125
def isBlk (c:UInt8):Bool:=c.toNat==32 || c.toNat==9 || c.toNat==10 || c.toNat==13
def notNl (c:UInt8):Bool:=!(c.toNat==10)
def wh (p:UInt8→Bool):List UInt8→Nat
 | []=>0
 | c :: l=>if p c then wh p l + 1 else 0
def blS:List UInt8→Nat
 | []=>0
 | c :: l=>if c.toNat=35 then wh notNl (c :: l) else if isBlk c then 1 else 0
def nmS:List UInt8→Nat
 | []=>0
 | c :: l=>if isDig c then 0 else wh inName (c :: l)
def nuS (ok:List UInt8→Bool):List UInt8→Nat
 | []=>0
 | c :: l=>if !(c.toNat==45) && !isDig c then 0 else if ok ((c :: l).take (wh inNum (c :: l))) then wh inNum (c :: l) else 0
def mkS:List UInt8→Nat
 | []=>0
 | c :: l=>if isMark c then 1 else 0
def hxU (c:UInt8):Option Nat:=if 48≤c.toNat∧c.toNat≤57 then some (c.toNat - 48) else if 97≤c.toNat∧c.toNat≤102 then some (c.toNat - 87) else if 65≤c.toNat∧c.toNat≤70 then some (c.toNat - 55) else none
def hxN (n:Nat):List UInt8→Option Nat
 | []=>some n
 | c :: l=>match hxU c with
  | none=>none
  | some d=>hxN (16 * n + d) l
def byN (l:List UInt8):Option (List UInt8×Nat) :=
 if l.length<4 then none else match hxN 0 (l.take 4) with
 | none=>none
 | some r=>if Utf8.valid (r:Int) then some (Ut.bl (Utf8.encode (r:Int)),6) else none
def escO:List UInt8→Option (List UInt8×Nat)
 | []=>none
 | c :: l=>if c.toNat=34∨c.toNat=92 then some ([c],2) else if c.toNat=117 then byN l else none
def chO:List UInt8→Option (List UInt8×Nat)
 | []=>none
 | c :: l=>if c.toNat=92 then escO l else if c.toNat<32 then none else match Ut.chr (c :: l) with
  | none=>none
  | some (_,n)=>some ((c :: l).take n,n)
def unq:Nat→List UInt8→Option (List UInt8×Nat)
 | 0,_=>none
 | _ + 1,[]=>none
 | f + 1,c :: l=>if c.toNat=34 then some ([],1) else match chO (c :: l) with
  | none=>none
  | some (s,n)=>match unq f ((c :: l).drop n) with
   | none=>none
   | some (s',m)=>some (s++s',n + m)
def quS:List UInt8→Option (List UInt8×Nat)
 | []=>none
 | c :: l=>if c.toNat=34 then (match unq l.length l with
  | none=>none
  | some (s,n)=>some (s,n + 1)) else none
def cutK (ok:List UInt8→Bool) (k:Nat) (l:List UInt8):List UInt8×Nat :=
 if k=0 then ([],blS l) else if k=1 then (l.take (nmS l),nmS l) else if k=2 then (l.take (nuS ok l),nuS ok l) else if k=3 then (quS l).getD ([],0) else if k=4 then (l.take (mkS l),mkS l) else ([],0)
def fstK (ok:List UInt8→Bool) (l:List UInt8):Nat→Nat→Option (Nat×List UInt8×Nat)
 | 0,_=>none
 | f + 1,k=>if (cutK ok k l).2=0 then fstK ok l f (k + 1) else some (k,(cutK ok k l).1,(cutK ok k l).2)
def tok (ok:List UInt8→Bool) (l:List UInt8):Option (Nat×List UInt8×Nat):=fstK ok l 5 0
theorem wh_le (p:UInt8→Bool):∀ l,wh p l≤l.length
 | []=>Nat.le_refl _
 | c :: l=>by have:=wh_le p l;simp only [wh,List.length_cons];split <;> omega
theorem wh_app (p:UInt8→Bool) (b:UInt8) (t:List UInt8) (hp:p b=false):∀ l,wh p (l++b :: t)=wh p l
 | []=>by simp [wh,hp]
 | c :: l=>by simp only [List.cons_append,wh];rw [wh_app p b t hp l]
theorem take_wh (p:UInt8→Bool) (l t:List UInt8):(l++t).take (wh p l)=l.take (wh p l):=List.take_append_of_le_length (wh_le p l)
theorem chr_app {l:List UInt8} {r n:Nat} (h:Ut.chr l=some (r,n)) (t:List UInt8):Ut.chr (l++t)=some (r,n):=by
 obtain ⟨n1,n4,nl,_,hv,hb⟩:=Ut.chr_some h
 have h2:=Ut.chr_encode r hv (l.drop n++t)
 rw [hb,←List.append_assoc,List.take_append_drop,List.length_take,Nat.min_eq_left nl] at h2
 exact h2
theorem nx_nl (p:Ut.St) (hp:p≠.i8):Ut.nx p 10=none:=by cases p <;> first|exact absurd rfl hp|rfl
theorem chr_nl {c:UInt8} {l:List UInt8} (t:List UInt8) (h:Ut.chr (c :: l)=none):Ut.chr (c :: l++10 :: t)=none:=by
 cases hc:Ut.chr (c :: l++10 :: t) with
 | none=>rfl
 | some rn =>
  obtain ⟨r,n⟩:=rn
  obtain ⟨n1,n4,nl,hr,hv,hb⟩:=Ut.chr_some hc
  exfalso
  by_cases hn:n≤(c :: l).length
  ·rw [List.take_append_of_le_length hn] at hr hb
   have h2:=Ut.chr_encode r hv ((c :: l).drop n)
   rw [hb,List.take_append_drop] at h2
   rw [h] at h2;cases h2
  ·have hcut:(c :: l++10 :: t).take n=(c :: l)++(10 :: t).take (n - (c :: l).length):=by
    rw [List.take_append,List.take_of_length_le (by omega)]
   rw [hcut] at hr
   obtain ⟨k,hk⟩:∃ k,n - (c :: l).length=k + 1:=⟨n - (c :: l).length - 1,by omega⟩
   rw [hk,List.take_succ_cons] at hr
   rcases Ut.chr_none (List.cons_ne_nil c l) h with e|⟨p,hp,e,_⟩
   ·rw [Ut.run_app_no e] at hr;cases hr
   ·rw [Ut.run_app e,Ut.run_cons_no (nx_nl p hp)] at hr;cases hr
theorem hxN_nl (a:Nat) (t:List UInt8):∀ l:List UInt8,hxN a (l++10 :: t)=none:=by
 intro l
 induction l generalizing a with
 | nil=>rfl
 | cons c l ih =>
  simp only [hxN,List.cons_append]
  cases hc:hxU c with
  | none=>rfl
  | some d=>exact ih _
theorem byN_nl (l t:List UInt8):byN (l++10 :: t)=byN l:=by
 unfold byN
 by_cases h:l.length<4
 ·rw [if_pos h]
  split
  ·rfl
  ·have:∃ k,4 - l.length=k + 1:=⟨3 - l.length,by omega⟩
   obtain ⟨k,hk⟩:=this
   rw [List.take_append,hk,List.take_succ_cons,hxN_nl]
 ·rw [if_neg h,if_neg (by simp;omega),List.take_append_of_le_length (by omega)]
theorem chO_nl {c:UInt8} {l:List UInt8} (t:List UInt8):chO (c :: l++10 :: t)=chO (c :: l):=by
 simp only [chO,List.cons_append]
 split
 ·cases l with
  | nil=>rfl
  | cons d l =>
   simp only [List.cons_append,escO]
   rw [byN_nl]
 ·split
  ·rfl
  ·cases h:Ut.chr (c :: l) with
   | none=>have:=chr_nl t h;simp only [List.cons_append] at this;rw [this]
   | some rn =>
    obtain ⟨r,n⟩:=rn
    have:=chr_app h (10 :: t)
    simp only [List.cons_append] at this
    rw [this]
    simp only
    have hn:=(Ut.chr_some h).2.2.1
    rw [←List.cons_append,List.take_append_of_le_length hn]
theorem byN_n {l s:List UInt8} {n:Nat} (h:byN l=some (s,n)):n=6∧4≤l.length:=by
 unfold byN at h
 split at h
 ·cases h
 ·split at h
  ·cases h
  ·split at h
   ·simp only [Option.some.injEq,Prod.mk.injEq] at h;exact ⟨h.2.symm,by omega⟩
   ·cases h
theorem chO_n {c:UInt8} {l s:List UInt8} {n:Nat} (h:chO (c :: l)=some (s,n)):1≤n∧n≤(c :: l).length:=by
 simp only [chO] at h
 split at h
 ·cases l with
  | nil=>cases h
  | cons d l =>
   simp only [escO] at h
   split at h
   ·cases h;simp
   ·split at h
    ·have:=byN_n h;simp only [List.length_cons];omega
    ·cases h
 ·split at h
  ·cases h
  ·split at h
   ·cases h
   ·rename_i r m hc
    cases h
    obtain ⟨n1,n4,nl,_⟩:=Ut.chr_some hc
    exact ⟨n1,nl⟩
theorem unq_more:∀ (f:Nat) (l:List UInt8),l.length≤f→unq f l=unq l.length l
 | 0,l,h=>by have:l=[]:=List.length_eq_zero_iff.1 (by omega);subst this;rfl
 | f + 1,[],h=>rfl
 | f + 1,c :: l,h=>by
  simp only [List.length_cons] at h
  simp only [unq,List.length_cons]
  split
  ·rfl
  ·cases hc:chO (c :: l) with
   | none=>rfl
   | some sn =>
    obtain ⟨s,n⟩:=sn
    have hn:=chO_n hc
    simp only
    have hd:((c :: l).drop n).length≤l.length:=by rw [List.length_drop,List.length_cons];omega
    rw [unq_more f _ (by omega),unq_more l.length _ hd]
theorem unq_nil (f:Nat):unq f []=none:=by cases f <;> rfl
theorem unq_n:∀ (f:Nat) (l s:List UInt8) (n:Nat),unq f l=some (s,n)→1≤n∧n≤l.length
 | 0,l,s,n,h=>by cases h
 | f + 1,[],s,n,h=>by cases h
 | f + 1,c :: l,s,n,h=>by
  simp only [unq] at h
  split at h
  ·cases h;simp
  ·split at h
   ·cases h
   ·rename_i s1 n1 hc
    split at h
    ·cases h
    ·rename_i s2 n2 hu
     cases h
     have h1:=chO_n hc
     have h2:=unq_n f _ _ _ hu
     rw [List.length_drop] at h2
     omega
theorem unq_nl (t:List UInt8):∀ (f:Nat) (l:List UInt8),l.length≤f→unq (f + 1 + t.length) (l++10 :: t)=unq f l
 | f,[],h=>by
  rw [unq_nil]
  have:f + 1 + t.length=(f + t.length) + 1:=by omega
  rw [this]
  simp [unq,chO]
 | 0,c :: l,h=>by simp at h
 | f + 1,c :: l,h=>by
  have e:f + 1 + 1 + t.length=(f + 1 + t.length) + 1:=by omega
  rw [e]
  simp only [unq,List.cons_append]
  split
  ·rfl
  ·have:=chO_nl (c:=c) (l:=l) t
   simp only [List.cons_append] at this
   rw [this]
   cases hc:chO (c :: l) with
   | none=>rfl
   | some sn =>
    obtain ⟨s,n⟩:=sn
    have hn:=chO_n hc
    simp only
    have hd:(c :: (l++10 :: t)).drop n=(c :: l).drop n++10 :: t:=by rw [←List.cons_append,List.drop_append_of_le_length hn.2]
    rw [hd,unq_nl t f _ (by rw [List.length_drop];simp only [List.length_cons] at h ⊢;omega)]
theorem cutK_nl (ok:List UInt8→Bool) (k:Nat) (c:UInt8) (l t:List UInt8):cutK ok k (c :: l++10 :: t)=cutK ok k (c :: l):=by
 unfold cutK
 have hw:∀ p:UInt8→Bool,p 10=false→wh p (c :: (l++10 :: t))=wh p (c :: l):=fun p hp=>by rw [←List.cons_append];exact wh_app p 10 t hp _
 have e0:blS (c :: l++10 :: t)=blS (c :: l):=by simp only [blS,List.cons_append];rw [hw notNl (by rfl)]
 have e1:nmS (c :: l++10 :: t)=nmS (c :: l):=by simp only [nmS,List.cons_append];rw [hw inName (by rfl)]
 have e2:nuS ok (c :: l++10 :: t)=nuS ok (c :: l):=by
  simp only [nuS,List.cons_append]
  rw [hw inNum (by rfl),←List.cons_append,take_wh]
 have e4:mkS (c :: l++10 :: t)=mkS (c :: l):=by simp only [mkS,List.cons_append]
 have e3:quS (c :: l++10 :: t)=quS (c :: l):=by
  simp only [quS,List.cons_append]
  split
  ·have:(l++10 :: t).length=l.length + 1 + t.length:=by simp;omega
   rw [this,unq_nl t _ _ (Nat.le_refl _)]
  ·rfl
 have z1:nmS (c :: l)≤(c :: l).length:=by simp only [nmS];split;exact Nat.zero_le _;exact wh_le _ _
 have z2:nuS ok (c :: l)≤(c :: l).length:=by simp only [nuS];split;exact Nat.zero_le _;split;exact wh_le _ _;exact Nat.zero_le _
 have z4:mkS (c :: l)≤(c :: l).length:=by simp only [mkS];split <;> simp
 rw [e0,e1,e2,e3,e4,List.take_append_of_le_length z1,List.take_append_of_le_length z2,List.take_append_of_le_length z4]
theorem fstK_nl (ok:List UInt8→Bool) (c:UInt8) (l t:List UInt8):∀ f k,fstK ok (c :: l++10 :: t) f k=fstK ok (c :: l) f k
 | 0,_=>rfl
 | f + 1,k=>by simp only [fstK];rw [cutK_nl,fstK_nl ok c l t f (k + 1)]
theorem tok_nl (ok:List UInt8→Bool) (c:UInt8) (l t:List UInt8):tok ok (c :: l++10 :: t)=tok ok (c :: l):=fstK_nl ok c l t 5 0
theorem cutK_le (ok:List UInt8→Bool) (k:Nat) (c:UInt8) (l:List UInt8):(cutK ok k (c :: l)).2≤(c :: l).length:=by
 have z0:blS (c :: l)≤(c :: l).length:=by simp only [blS];split;exact wh_le _ _;split <;> simp
 have z1:nmS (c :: l)≤(c :: l).length:=by simp only [nmS];split;exact Nat.zero_le _;exact wh_le _ _
 have z2:nuS ok (c :: l)≤(c :: l).length:=by simp only [nuS];split;exact Nat.zero_le _;split;exact wh_le _ _;exact Nat.zero_le _
 have z4:mkS (c :: l)≤(c :: l).length:=by simp only [mkS];split <;> simp
 have z3:((quS (c :: l)).getD ([],0)).2≤(c :: l).length:=by
  simp only [quS]
  split
  ·split
   ·exact Nat.zero_le _
   ·rename_i s n h;have:=unq_n _ _ _ _ h;simp only [Option.getD_some,List.length_cons];omega
  ·exact Nat.zero_le _
 unfold cutK
 split
 ·exact z0
 ·split
  ·exact z1
  ·split
   ·exact z2
   ·split
    ·exact z3
    ·split
     ·exact z4
     ·exact Nat.zero_le _
theorem fstK_n (ok:List UInt8→Bool) (c:UInt8) (l:List UInt8):∀ f k j s n,fstK ok (c :: l) f k=some (j,s,n)→1≤n∧n≤(c :: l).length∧k≤j∧j<k + f∧cutK ok j (c :: l)=(s,n)∧∀ i,k≤i→i<j→(cutK ok i (c :: l)).2=0
 | 0,_,_,_,_,h=>by cases h
 | f + 1,k,j,s,n,h=>by
  simp only [fstK] at h
  split at h
  ·rename_i h0
   obtain ⟨a,b,d,e,g,i⟩:=fstK_n ok c l f (k + 1) j s n h
   exact ⟨a,b,by omega,by omega,g,fun q q1 q2=>by by_cases hq:q=k;subst hq;exact h0;exact i q (by omega) q2⟩
  ·rename_i h0
   cases h
   exact ⟨by omega,cutK_le ok k c l,Nat.le_refl _,by omega,rfl,fun i a b=>by omega⟩
theorem tok_n {ok:List UInt8→Bool} {c:UInt8} {l:List UInt8} {j:Nat} {s:List UInt8} {n:Nat} (h:tok ok (c :: l)=some (j,s,n)):1≤n∧n≤(c :: l).length∧j<5∧cutK ok j (c :: l)=(s,n)∧∀ i,i<j→(cutK ok i (c :: l)).2=0:=by
 obtain ⟨a,b,d,e,g,i⟩:=fstK_n ok c l 5 0 j s n h
 exact ⟨a,b,by omega,g,fun q q1=>i q (by omega) q1⟩
structure Tk where
 w:Int
 s:List UInt8
 p:Int
def wdK (k:Nat):Nat:=if k=1 then 1 else if k=2 then 3 else if k=3 then 2 else if k=4 then 4 else 0
def lgK (k:Nat):Nat:=if k=1 then 64 else if k=2 then 512 else if k=3 then 4096 else if k=4 then 1 else 0
def scn (ok:List UInt8→Bool):Nat→List UInt8→Nat→List Tk→Sum (Nat×Nat) (List Tk)
 | _,[],_,acc=>.inr acc
 | 0,_ :: _,_,_=>.inl (0,0)
 | f + 1,c :: l,p,acc=>match tok ok (c :: l) with
  | none=>.inl (130,p)
  | some (k,s,n)=>if k=0 then scn ok f ((c :: l).drop n) (p + n) acc else if lgK k<s.length∨acc.length=1024 then .inl (2,p) else scn ok f ((c :: l).drop n) (p + n) (acc++[⟨wdK k,s,p⟩])
theorem scn_nil (ok:List UInt8→Bool) (f p:Nat) (acc:List Tk):scn ok f [] p acc=.inr acc:=by cases f <;> rfl
theorem scn_more (ok:List UInt8→Bool):∀ (f:Nat) (l:List UInt8) (p:Nat) (acc:List Tk),l.length≤f→scn ok f l p acc=scn ok l.length l p acc
 | f,[],p,acc,h=>by rw [scn_nil,scn_nil]
 | 0,c :: l,p,acc,h=>by simp at h
 | f + 1,c :: l,p,acc,h=>by
  simp only [List.length_cons] at h
  simp only [scn,List.length_cons]
  cases hc:tok ok (c :: l) with
  | none=>rfl
  | some x =>
   obtain ⟨k,s,n⟩:=x
   have hn:=tok_n hc
   simp only
   have hd:((c :: l).drop n).length≤l.length:=by rw [List.length_drop,List.length_cons];omega
   rw [scn_more ok f _ _ _ (by omega),scn_more ok l.length _ _ _ hd]
   rw [scn_more ok f _ _ _ (by omega),scn_more ok l.length _ _ _ hd]
def scnA (ok:List UInt8→Bool) (l:List UInt8) (p:Nat) (acc:List Tk):Sum (Nat×Nat) (List Tk):=scn ok l.length l p acc
theorem scnA_nil (ok:List UInt8→Bool) (p:Nat) (acc:List Tk):scnA ok [] p acc=.inr acc:=rfl
theorem scnA_cons (ok:List UInt8→Bool) (c:UInt8) (l:List UInt8) (p:Nat) (acc:List Tk):scnA ok (c :: l) p acc=match tok ok (c :: l) with
  | none=>.inl (130,p)
  | some (k,s,n)=>if k=0 then scnA ok ((c :: l).drop n) (p + n) acc else if lgK k<s.length∨acc.length=1024 then .inl (2,p) else scnA ok ((c :: l).drop n) (p + n) (acc++[⟨wdK k,s,p⟩]):=by
 unfold scnA
 simp only [scn,List.length_cons]
 cases hc:tok ok (c :: l) with
 | none=>rfl
 | some x =>
  obtain ⟨k,s,n⟩:=x
  have hn:=tok_n hc
  have hd:((c :: l).drop n).length≤l.length:=by rw [List.length_drop,List.length_cons];omega
  simp only
  rw [scn_more ok l.length _ _ _ hd,scn_more ok l.length _ _ _ hd]
theorem scn_nl (ok:List UInt8→Bool) (t:List UInt8):∀ (m:Nat) (l:List UInt8) (p:Nat) (acc:List Tk),l.length≤m→scnA ok (l++10 :: t) p acc=match scnA ok l p acc with
  | .inl e=>.inl e
  | .inr a=>scnA ok (10 :: t) (p + l.length) a
 | m,[],p,acc,h=>by simp [scnA_nil]
 | 0,c :: l,p,acc,h=>by simp at h
 | m + 1,c :: l,p,acc,h=>by
  simp only [List.length_cons] at h
  have ht:=tok_nl ok c l t
  simp only [List.cons_append] at ht ⊢
  rw [scnA_cons,scnA_cons,ht]
  cases hc:tok ok (c :: l) with
  | none=>rfl
  | some x =>
   obtain ⟨k,s,n⟩:=x
   have hn:=tok_n hc
   simp only
   have hd:((c :: l).drop n).length≤m:=by rw [List.length_drop,List.length_cons];omega
   have e:(c :: (l++10 :: t)).drop n=(c :: l).drop n++10 :: t:=by rw [←List.cons_append,List.drop_append_of_le_length hn.2.1]
   have el:∀ q,q + n + ((c :: l).drop n).length=q + (c :: l).length:=fun q=>by rw [List.length_drop];have:=hn.2.1;omega
   rw [e,scn_nl ok t m _ _ _ hd,scn_nl ok t m _ _ _ hd,el]
   split
   ·rfl
   ·split
    ·rfl
    ·rfl
def sh (d:Nat) (t:Tk):Tk:=⟨t.w,t.s,t.p + (d:Int)⟩
theorem scn_err (ok:List UInt8→Bool):∀ (m:Nat) (l:List UInt8) (p:Nat) (acc:List Tk) (e q:Nat),l.length≤m→scnA ok l p acc=.inl (e,q)→(e=2∨e=130)∧p≤q∧q≤p + l.length
 | m,[],p,acc,e,q,h,hz=>by cases hz
 | 0,c :: l,p,acc,e,q,h,hz=>by simp at h
 | m + 1,c :: l,p,acc,e,q,h,hz=>by
  simp only [List.length_cons] at h
  rw [scnA_cons] at hz
  cases hc:tok ok (c :: l) with
  | none=>rw [hc] at hz;cases hz;exact ⟨Or.inr rfl,by omega,by omega⟩
  | some x =>
   obtain ⟨k,s,n⟩:=x
   have hn:=tok_n hc
   rw [hc] at hz
   simp only at hz
   have hd:((c :: l).drop n).length≤m:=by rw [List.length_drop,List.length_cons];omega
   have hl:((c :: l).drop n).length=(c :: l).length - n:=List.length_drop
   split at hz
   ·have:=scn_err ok m _ _ _ _ _ hd hz;omega
   ·split at hz
    ·cases hz;exact ⟨Or.inl rfl,by omega,by omega⟩
    ·have:=scn_err ok m _ _ _ _ _ hd hz;omega
theorem scn_len (ok:List UInt8→Bool):∀ (m:Nat) (l:List UInt8) (p:Nat) (acc r:List Tk),l.length≤m→scnA ok l p acc=.inr r→acc.length≤1024→∃ x,r=acc++x∧r.length≤1024∧x.length≤l.length∧(∀ t∈x,t.s.length≤4096∧p≤t.p∧t.p≤p + l.length∧0≤t.w∧t.w≤4)
 | m,[],p,acc,r,h,hz,ha=>by rw [scnA_nil] at hz;cases hz;exact ⟨[],by simp,ha,by simp,by simp⟩
 | 0,c :: l,p,acc,r,h,hz,ha=>by simp at h
 | m + 1,c :: l,p,acc,r,h,hz,ha=>by
  simp only [List.length_cons] at h
  rw [scnA_cons] at hz
  cases hc:tok ok (c :: l) with
  | none=>rw [hc] at hz;cases hz
  | some x =>
   obtain ⟨k,s,n⟩:=x
   have hn:=tok_n hc
   rw [hc] at hz
   simp only at hz
   have hd:((c :: l).drop n).length≤m:=by rw [List.length_drop,List.length_cons];omega
   have hl:((c :: l).drop n).length=(c :: l).length - n:=List.length_drop
   split at hz
   ·obtain ⟨x,h1,h2,h3,h4⟩:=scn_len ok m _ _ _ _ hd hz ha
    exact ⟨x,h1,h2,by omega,fun t ht=>by have:=h4 t ht;omega⟩
   ·split at hz
    ·cases hz
    ·rename_i hq
     have hlk:lgK k≤4096:=by unfold lgK;(repeat' split) <;> omega
     have hwk:wdK k≤4:=by unfold wdK;(repeat' split) <;> omega
     obtain ⟨x,h1,h2,h3,h4⟩:=scn_len ok m _ _ _ _ hd hz (by simp;omega)
     refine ⟨⟨wdK k,s,p⟩ :: x,by rw [h1];simp,h2,by simp only [List.length_cons] at hl ⊢;omega,fun t ht=>?_⟩
     rcases List.mem_cons.1 ht with rfl|ht
     ·exact ⟨by simp only;omega,by simp,by simp only [List.length_cons];omega,by simp,by simp only;omega⟩
     ·have:=h4 t ht;omega
def hxd (d:Nat):UInt8:=if d<10 then UInt8.ofNat (48 + d) else UInt8.ofNat (87 + d)
def esB (c:UInt8):List UInt8:=if c.toNat=34∨c.toNat=92 then [92,c] else if c.toNat<32 then [92,117,48,48,hxd (c.toNat / 16),hxd (c.toNat % 16)] else [c]
def esc (l:List UInt8):List UInt8:=l.flatMap esB
def quo (l:List UInt8):List UInt8:=34 :: (esc l++[34])
def okT (l:List UInt8):Bool:=decide (Ut.run .i8 l=some .i8)
def kdW (w:Int):Nat:=if w=1 then 1 else if w=3 then 2 else if w=2 then 3 else if w=4 then 4 else 0
def isT (ok:List UInt8→Bool) (w:Int) (s:List UInt8):Bool:=if kdW w=0 then false else if kdW w=3 then okT s else if s=[] then false else (cutK ok (kdW w) s).2==s.length
def spl (w:Int) (s:List UInt8):List UInt8:=if w=2 then quo s else s
theorem esc_cons (c:UInt8) (l:List UInt8):esc (c :: l)=esB c++esc l:=by simp [esc]
theorem esc_app (a b:List UInt8):esc (a++b)=esc a++esc b:=by simp [esc]
theorem chr_high {l:List UInt8} {r n:Nat} (h:Ut.chr l=some (r,n)) (h2:∀ c t,l=c :: t→128≤c.toNat):∀ c∈l.take n,128≤c.toNat:=by
 rcases Ut.chr_cases h with ⟨a,t,rfl,rfl,h1,_⟩|⟨a,b,t,rfl,rfl,h1,h3,hb,_⟩|⟨a,b,c,t,rfl,rfl,h1,h3,hb,hc,_⟩|⟨a,b,c,d,t,rfl,rfl,h1,h3,hb,hc,hd,_⟩
 ·have:=h2 a t rfl;omega
 ·intro x hx;simp at hx;rcases hx with rfl|rfl <;> omega
 ·intro x hx;simp at hx;rcases hx with rfl|rfl|rfl <;> omega
 ·intro x hx;simp at hx;rcases hx with rfl|rfl|rfl|rfl <;> omega
def jn:List (List UInt8)→List UInt8
 | []=>[]
 | [a]=>a
 | a :: b :: r=>a++32 :: jn (b :: r)
def splT (t:Tk):List UInt8:=spl t.w t.s
def same (a b:List Tk):Prop:=a.map (fun t=>(t.w,t.s))=b.map (fun t=>(t.w,t.s))
end Lx
end Go.Proofs.YtgicnopppgnjjaaGreatDoor
