/- Merged by program: UaMath, UbNext. -/
import GoSem.Core.Utf8
import GoSem.Core.Value
import Derived.Laws.RangeAny
import Derived.Test.YtgicnopppgnjjaaGreatDoorRows
import Derived.WalkKit
import Derived.WalkSpells
import Derived.WalkLawsBesides
import Derived.Outline
import Derived.Laws.Rows
set_option linter.unusedSimpArgs false
set_option linter.unusedVariables false
namespace Go.Proofs.YtgicnopppgnjjaaGreatDoor.Ut
def bl (s:ByteArray):List UInt8:=s.data.toList
theorem bl_length (s:ByteArray):(bl s).length=s.size:=by show s.data.toList.length=s.data.size;simp
theorem bl_get (s:ByteArray) (k:Nat) (h:k<s.size):(bl s)[k]'(by rw [bl_length];exact h)=s[k]:=by
 simp [bl];rfl
abbrev St:=IntKind
def nx (p:St) (n:Nat):Option St:=match p with
 | .i8=>if n<128 then some .i8 else if n<194 then none else if n<224 then some .i16 else if n=224 then some .u8 else if n=237 then some .u16 else if n<240 then some .i32
  else if n=240 then some .u32 else if n<244 then some .i64 else if n=244 then some .u64 else none
 | .i16=>if 128≤n∧n≤191 then some .i8 else none
 | .i32=>if 128≤n∧n≤191 then some .i16 else none
 | .i64=>if 128≤n∧n≤191 then some .i32 else none
 | .u8=>if 160≤n∧n≤191 then some .i16 else none
 | .u16=>if 128≤n∧n≤159 then some .i16 else none
 | .u32=>if 144≤n∧n≤191 then some .i32 else none
 | .u64=>if 128≤n∧n≤143 then some .i32 else none
def run:St→List UInt8→Option St
 | p,[]=>some p
 | p,b :: l=>match nx p b.toNat with
  | none=>none
  | some q=>run q l
theorem run_cons {p q:St} {b:UInt8} {l:List UInt8} (h:nx p b.toNat=some q):run p (b :: l)=run q l:=by simp [run,h]
theorem run_cons_no {p:St} {b:UInt8} {l:List UInt8} (h:nx p b.toNat=none):run p (b :: l)=none:=by simp [run,h]
theorem run_app {p q:St} {a l:List UInt8} (h:run p a=some q):run p (a++l)=run q l:=by
 induction a generalizing p with
 | nil=>simp only [run,Option.some.injEq] at h;subst h;rfl
 | cons b a ih =>
  cases hn:nx p b.toNat with
  | none=>rw [run_cons_no hn] at h;cases h
  | some r=>rw [run_cons hn] at h;rw [List.cons_append,run_cons hn];exact ih h
theorem run_app_no {p:St} {a l:List UInt8} (h:run p a=none):run p (a++l)=none:=by
 induction a generalizing p with
 | nil=>cases h
 | cons b a ih =>
  cases hn:nx p b.toNat with
  | none=>rw [List.cons_append,run_cons_no hn]
  | some r=>rw [run_cons hn] at h;rw [List.cons_append,run_cons hn];exact ih h
def ct (n:Nat):Bool:=n / 64==2
theorem ct_iff (n:Nat):ct n=true↔128≤n∧n≤191:=by unfold ct;rw [beq_iff_eq];omega
def chr:List UInt8→Option (Nat×Nat)
 | []=>none
 | a :: l =>
  if a.toNat<128 then some (a.toNat,1) else
  match l with
  | []=>none
  | b :: l =>
   if a.toNat / 32==6 && ct b.toNat then (if 128≤a.toNat % 32 * 64 + b.toNat % 64 then some (a.toNat % 32 * 64 + b.toNat % 64,2) else none) else
   match l with
   | []=>none
   | c :: l =>
    if a.toNat / 16==14 && ct b.toNat && ct c.toNat then (if 2048≤a.toNat % 16 * 4096 + b.toNat % 64 * 64 + c.toNat % 64∧Utf8.valid ((a.toNat % 16 * 4096 + b.toNat % 64 * 64 + c.toNat % 64:Nat):Int)=true then some (a.toNat % 16 * 4096 + b.toNat % 64 * 64 + c.toNat % 64,3) else none) else
    match l with
    | []=>none
    | d :: _ =>
     if a.toNat / 8==30 && ct b.toNat && ct c.toNat && ct d.toNat then (if 65536≤a.toNat % 8 * 262144 + b.toNat % 64 * 4096 + c.toNat % 64 * 64 + d.toNat % 64∧Utf8.valid ((a.toNat % 8 * 262144 + b.toNat % 64 * 4096 + c.toNat % 64 * 64 + d.toNat % 64:Nat):Int)=true then some (a.toNat % 8 * 262144 + b.toNat % 64 * 4096 + c.toNat % 64 * 64 + d.toNat % 64,4) else none) else none
theorem drop_cons_get (s:ByteArray) (i:Nat) (a:UInt8) (l:List UInt8) (h:(bl s).drop i=a :: l) (k:Nat):s.get! (i + k)=(((a :: l)[k]?).getD default)∧(decide (i + k<s.size)=decide (k<(a :: l).length)):=by
 have hl:(a :: l).length=s.size - i:=by rw [←h,List.length_drop,bl_length]
 constructor
 ·have:(a :: l)[k]?=(bl s)[i + k]?:=by rw [←h,List.getElem?_drop]
  rw [this]
  show s.data[i + k]! = _
  simp [bl,getElem!_def]
  split <;> simp_all
 ·rw [hl]
  have:0<(a :: l).length:=by simp
  congr 1
  apply propext
  constructor <;> intro _ <;> omega
theorem decode_chr (s:ByteArray) (i:Nat) (h:i<s.size):Utf8.decode s i=(chr ((bl s).drop i)).getD (65533,1):=by
 cases hd:(bl s).drop i with
 | nil=>have:=congrArg List.length hd;rw [List.length_drop,bl_length] at this;simp at this;omega
 | cons a l =>
  have g:=drop_cons_get s i a l hd
  have g0:=(g 0).1;have g1:=g 1;have g2:=g 2;have g3:=g 3
  match l with
  | [] =>
   simp [decide_eq_decide] at g0 g1 g2 g3
   have e1:decide (i + 1<s.size)=false:=decide_eq_false (by omega)
   have e2:decide (i + 2<s.size)=false:=decide_eq_false (by omega)
   have e3:decide (i + 3<s.size)=false:=decide_eq_false (by omega)
   simp only [Utf8.decode,Utf8.runeError,Nat.add_zero,e1,e2,e3,g0,Bool.false_and,Bool.and_false,chr]
   split <;> simp
  | [b] =>
   simp [decide_eq_decide] at g0 g1 g2 g3
   have e1:decide (i + 1<s.size)=true:=decide_eq_true (by omega)
   have e2:decide (i + 2<s.size)=false:=decide_eq_false (by omega)
   have e3:decide (i + 3<s.size)=false:=decide_eq_false (by omega)
   simp only [Utf8.decode,Utf8.runeError,Nat.add_zero,e1,e2,e3,g0,g1.1,Bool.false_and,Bool.and_false,Bool.true_and,chr,ct]
   repeat' split
   all_goals simp_all [-not_and]
  | [b,c] =>
   simp [decide_eq_decide] at g0 g1 g2 g3
   have e1:decide (i + 1<s.size)=true:=decide_eq_true (by omega)
   have e2:decide (i + 2<s.size)=true:=decide_eq_true (by omega)
   have e3:decide (i + 3<s.size)=false:=decide_eq_false (by omega)
   simp only [Utf8.decode,Utf8.runeError,Nat.add_zero,e1,e2,e3,g0,g1.1,g2.1,Bool.false_and,Bool.and_false,Bool.true_and,chr,ct]
   repeat' split
   all_goals simp_all [-not_and]
  | b :: c :: d :: l =>
   simp [decide_eq_decide] at g0 g1 g2 g3
   have e1:decide (i + 1<s.size)=true:=decide_eq_true (by omega)
   have e2:decide (i + 2<s.size)=true:=decide_eq_true (by omega)
   have e3:decide (i + 3<s.size)=true:=decide_eq_true (by omega)
   simp only [Utf8.decode,Utf8.runeError,Nat.add_zero,e1,e2,e3,g0,g1.1,g2.1,g3.1,Bool.false_and,Bool.and_false,Bool.true_and,chr,ct]
   repeat' split
   all_goals simp_all [-not_and]
theorem nx_b0 {n:Nat} {q:St} (h:nx .i8 n=some q):(q=.i8∧n<128)∨(q=.i16∧194≤n∧n≤223)∨(q=.u8∧n=224)∨(q=.u16∧n=237)∨(q=.i32∧225≤n∧n≤239∧n≠237)∨(q=.u32∧n=240)∨(q=.i64∧241≤n∧n≤243)∨(q=.u64∧n=244):=by
 simp only [nx] at h
 repeat' split at h
 all_goals simp only [Option.some.injEq,reduceCtorEq] at h
 all_goals (subst h;simp;try omega)
theorem valid_iff (r:Nat):Utf8.valid (r:Int)=true↔r<55296∨(57344≤r∧r≤1114111):=by
 simp only [Utf8.valid,Bool.or_eq_true,Bool.and_eq_true,decide_eq_true_eq]
 omega
theorem chr_1 (a:UInt8) (t:List UInt8) (h:a.toNat<128):chr (a :: t)=some (a.toNat,1):=by simp [chr,h]
theorem chr_2 (a b:UInt8) (t:List UInt8) (h1:194≤a.toNat) (h2:a.toNat≤223) (hb:128≤b.toNat∧b.toNat≤191):chr (a :: b :: t)=some (a.toNat % 32 * 64 + b.toNat % 64,2):=by
 have e1:(a.toNat / 32==6)=true:=by rw [beq_iff_eq];omega
 simp only [chr,e1,(ct_iff _).2 hb,Bool.and_self,if_true]
 rw [if_neg (by omega),if_pos (by omega)]
theorem chr_3 (a b c:UInt8) (t:List UInt8) (h1:224≤a.toNat) (h2:a.toNat≤239) (hb:128≤b.toNat∧b.toNat≤191) (hc:128≤c.toNat∧c.toNat≤191) (g0:a.toNat=224→160≤b.toNat) (g1:a.toNat=237→b.toNat≤159) :
  chr (a :: b :: c :: t)=some (a.toNat % 16 * 4096 + b.toNat % 64 * 64 + c.toNat % 64,3):=by
 have e1:(a.toNat / 32==6)=false:=by rw [beq_eq_false_iff_ne];omega
 have e2:(a.toNat / 16==14)=true:=by rw [beq_iff_eq];omega
 simp only [chr,e1,e2,(ct_iff _).2 hb,(ct_iff _).2 hc,Bool.and_self,if_true,Bool.false_and]
 rw [if_neg (by omega),if_neg (by simp),if_pos ⟨by omega,(valid_iff _).2 (by omega)⟩]
theorem chr_4 (a b c d:UInt8) (t:List UInt8) (h1:240≤a.toNat) (h2:a.toNat≤244) (hb:128≤b.toNat∧b.toNat≤191) (hc:128≤c.toNat∧c.toNat≤191) (hd:128≤d.toNat∧d.toNat≤191) (g0:a.toNat=240→144≤b.toNat) (g1:a.toNat=244→b.toNat≤143) :
  chr (a :: b :: c :: d :: t)=some (a.toNat % 8 * 262144 + b.toNat % 64 * 4096 + c.toNat % 64 * 64 + d.toNat % 64,4):=by
 have e1:(a.toNat / 32==6)=false:=by rw [beq_eq_false_iff_ne];omega
 have e2:(a.toNat / 16==14)=false:=by rw [beq_eq_false_iff_ne];omega
 have e3:(a.toNat / 8==30)=true:=by rw [beq_iff_eq];omega
 simp only [chr,e1,e2,e3,(ct_iff _).2 hb,(ct_iff _).2 hc,(ct_iff _).2 hd,Bool.and_self,if_true,Bool.false_and]
 rw [if_neg (by omega),if_neg (by simp),if_neg (by simp),if_pos ⟨by omega,(valid_iff _).2 (by omega)⟩]
theorem chr_cases {l:List UInt8} {r n:Nat} (h:chr l=some (r,n)) :
  (∃ a t,l=a :: t∧n=1∧a.toNat<128∧r=a.toNat) ∨
  (∃ a b t,l=a :: b :: t∧n=2∧194≤a.toNat∧a.toNat≤223∧(128≤b.toNat∧b.toNat≤191)∧r=a.toNat % 32 * 64 + b.toNat % 64) ∨
  (∃ a b c t,l=a :: b :: c :: t∧n=3∧224≤a.toNat∧a.toNat≤239∧(128≤b.toNat∧b.toNat≤191)∧(128≤c.toNat∧c.toNat≤191)∧(a.toNat=224→160≤b.toNat)∧(a.toNat=237→b.toNat≤159)∧r=a.toNat % 16 * 4096 + b.toNat % 64 * 64 + c.toNat % 64) ∨
  (∃ a b c d t,l=a :: b :: c :: d :: t∧n=4∧240≤a.toNat∧a.toNat≤244∧(128≤b.toNat∧b.toNat≤191)∧(128≤c.toNat∧c.toNat≤191)∧(128≤d.toNat∧d.toNat≤191)∧(a.toNat=240→144≤b.toNat)∧(a.toNat=244→b.toNat≤143)∧r=a.toNat % 8 * 262144 + b.toNat % 64 * 4096 + c.toNat % 64 * 64 + d.toNat % 64):=by
 cases l with
 | nil=>cases h
 | cons a l =>
  have ha:=a.toNat_lt
  unfold chr at h
  simp only at h
  by_cases h1:a.toNat<128
  ·rw [if_pos h1] at h
   simp only [Option.some.injEq,Prod.mk.injEq] at h
   exact Or.inl ⟨a,l,rfl,h.2.symm,h1,h.1.symm⟩
  ·rw [if_neg h1] at h
   cases l with
   | nil=>cases h
   | cons b l =>
    simp only at h
    by_cases h2:(a.toNat / 32==6 && ct b.toNat)=true
    ·rw [if_pos h2] at h
     simp only [Bool.and_eq_true,beq_iff_eq,ct_iff] at h2
     by_cases h3:128≤a.toNat % 32 * 64 + b.toNat % 64
     ·rw [if_pos h3] at h
      simp only [Option.some.injEq,Prod.mk.injEq] at h
      exact Or.inr (Or.inl ⟨a,b,l,rfl,h.2.symm,by omega,by omega,h2.2,h.1.symm⟩)
     ·rw [if_neg h3] at h;cases h
    ·rw [if_neg h2] at h
     cases l with
     | nil=>cases h
     | cons c l =>
      simp only at h
      by_cases h4:(a.toNat / 16==14 && ct b.toNat && ct c.toNat)=true
      ·rw [if_pos h4] at h
       simp only [Bool.and_eq_true,beq_iff_eq,ct_iff] at h4
       split at h
       ·rename_i h5
        have h6:=(valid_iff _).1 h5.2
        simp only [Option.some.injEq,Prod.mk.injEq] at h
        exact Or.inr (Or.inr (Or.inl ⟨a,b,c,l,rfl,h.2.symm,by omega,by omega,h4.1.2,h4.2,by omega,by omega,h.1.symm⟩))
       ·cases h
      ·rw [if_neg h4] at h
       cases l with
       | nil=>cases h
       | cons d l =>
        simp only at h
        by_cases h7:(a.toNat / 8==30 && ct b.toNat && ct c.toNat && ct d.toNat)=true
        ·rw [if_pos h7] at h
         simp only [Bool.and_eq_true,beq_iff_eq,ct_iff] at h7
         split at h
         ·rename_i h5
          have h6:=(valid_iff _).1 h5.2
          simp only [Option.some.injEq,Prod.mk.injEq] at h
          exact Or.inr (Or.inr (Or.inr ⟨a,b,c,d,l,rfl,h.2.symm,by omega,by omega,h7.1.1.2,h7.1.2,h7.2,by omega,by omega,h.1.symm⟩))
         ·cases h
        ·rw [if_neg h7] at h;cases h
theorem nx_t1 {n:Nat} (h:128≤n∧n≤191):nx .i16 n=some .i8:=by simp [nx,h]
theorem nx_t2 {n:Nat} (h:128≤n∧n≤191):nx .i32 n=some .i16:=by simp [nx,h]
theorem run_3 {a b:UInt8} (h1:224≤a.toNat) (h2:a.toNat≤239) (hb:128≤b.toNat∧b.toNat≤191) (g0:a.toNat=224→160≤b.toNat) (g1:a.toNat=237→b.toNat≤159):run .i8 [a,b]=some .i16:=by
 have e:nx .i8 a.toNat=some (if a.toNat=224 then .u8 else if a.toNat=237 then .u16 else .i32):=by
  simp only [nx]
  repeat' split
  all_goals first|rfl|omega
 rw [run_cons e]
 by_cases q:a.toNat=224
 ·rw [if_pos q];have:=g0 q;rw [run_cons (q:=.i16) (by simp only [nx];rw [if_pos (by omega)])];rfl
 ·rw [if_neg q]
  by_cases q':a.toNat=237
  ·rw [if_pos q'];have:=g1 q';rw [run_cons (q:=.i16) (by simp only [nx];rw [if_pos (by omega)])];rfl
  ·rw [if_neg q'];rw [run_cons (q:=.i16) (by simp only [nx];rw [if_pos (by omega)])];rfl
theorem run_4 {a b:UInt8} (h1:240≤a.toNat) (h2:a.toNat≤244) (hb:128≤b.toNat∧b.toNat≤191) (g0:a.toNat=240→144≤b.toNat) (g1:a.toNat=244→b.toNat≤143):run .i8 [a,b]=some .i32:=by
 have e:nx .i8 a.toNat=some (if a.toNat=240 then .u32 else if a.toNat=244 then .u64 else .i64):=by
  simp only [nx]
  repeat' split
  all_goals first|rfl|omega
 rw [run_cons e]
 by_cases q:a.toNat=240
 ·rw [if_pos q];have:=g0 q;rw [run_cons (q:=.i32) (by simp only [nx];rw [if_pos (by omega)])];rfl
 ·rw [if_neg q]
  by_cases q':a.toNat=244
  ·rw [if_pos q'];have:=g1 q';rw [run_cons (q:=.i32) (by simp only [nx];rw [if_pos (by omega)])];rfl
  ·rw [if_neg q'];rw [run_cons (q:=.i32) (by simp only [nx];rw [if_pos (by omega)])];rfl
theorem u8_of {k:Nat} {a:UInt8} (h:k=a.toNat):UInt8.ofNat k=a:=by subst h;simp
set_option maxRecDepth 100000 in
theorem chr_some {l:List UInt8} {r n:Nat} (h:chr l=some (r,n)) :
  1≤n∧n≤4∧n≤l.length∧run .i8 (l.take n)=some .i8∧Utf8.valid (r:Int)=true∧bl (Utf8.encode (r:Int))=l.take n:=by
 rcases chr_cases h with ⟨a,t,rfl,rfl,h1,rfl⟩|⟨a,b,t,rfl,rfl,h1,h2,hb,hr⟩|⟨a,b,c,t,rfl,rfl,h1,h2,hb,hc,g0,g1,hr⟩|⟨a,b,c,d,t,rfl,rfl,h1,h2,hb,hc,hd,g0,g1,hr⟩
 ·have hv:Utf8.valid ((a.toNat:Nat):Int)=true:=(valid_iff _).2 (by omega)
  refine ⟨by omega,by omega,by simp,?_,hv,?_⟩
  ·simp [run,nx,h1]
  ·simp only [Utf8.encode,hv,if_true,Int.toNat_natCast,h1]
   simp [bl]
 ·have hv:Utf8.valid (r:Int)=true:=(valid_iff _).2 (by omega)
  refine ⟨by omega,by omega,by simp,?_,hv,?_⟩
  ·have e:nx .i8 a.toNat=some .i16:=by
    simp only [nx]
    repeat' split
    all_goals first|rfl|omega
   simp [run,e,nx_t1 hb]
  ·simp only [Utf8.encode,hv,if_true,Int.toNat_natCast]
   rw [if_neg (by omega),if_pos (by omega)]
   rw [u8_of (a:=a) (by omega),u8_of (a:=b) (by omega)]
   rfl
 ·have hv:Utf8.valid (r:Int)=true:=(valid_iff _).2 (by omega)
  refine ⟨by omega,by omega,by simp,?_,hv,?_⟩
  ·show run .i8 ([a,b]++[c])=_
   rw [run_app (run_3 h1 h2 hb g0 g1)]
   simp [run,nx_t1 hc]
  ·simp only [Utf8.encode,hv,if_true,Int.toNat_natCast]
   rw [if_neg (by omega),if_neg (by omega),if_pos (by omega)]
   rw [u8_of (a:=a) (by omega),u8_of (a:=b) (by omega),u8_of (a:=c) (by omega)]
   rfl
 ·have hv:Utf8.valid (r:Int)=true:=(valid_iff _).2 (by omega)
  refine ⟨by omega,by omega,by simp,?_,hv,?_⟩
  ·show run .i8 ([a,b]++[c,d])=_
   rw [run_app (run_4 h1 h2 hb g0 g1)]
   simp [run,nx_t2 hc,nx_t1 hd]
  ·simp only [Utf8.encode,hv,if_true,Int.toNat_natCast]
   rw [if_neg (by omega),if_neg (by omega),if_neg (by omega)]
   rw [u8_of (a:=a) (by omega),u8_of (a:=b) (by omega),u8_of (a:=c) (by omega),u8_of (a:=d) (by omega)]
   rfl
theorem run_t1 (l:List UInt8):run .i16 l=none∨l=[]∨∃ c t,l=c :: t∧128≤c.toNat∧c.toNat≤191:=by
 cases l with
 | nil=>exact Or.inr (Or.inl rfl)
 | cons c t =>
  by_cases h:128≤c.toNat∧c.toNat≤191
  ·exact Or.inr (Or.inr ⟨c,t,rfl,h⟩)
  ·exact Or.inl (run_cons_no (by simp only [nx];rw [if_neg h]))
theorem run_t2 (l:List UInt8):run .i32 l=none∨l=[]∨(∃ c,l=[c]∧128≤c.toNat∧c.toNat≤191)∨∃ c d t,l=c :: d :: t∧(128≤c.toNat∧c.toNat≤191)∧128≤d.toNat∧d.toNat≤191:=by
 cases l with
 | nil=>exact Or.inr (Or.inl rfl)
 | cons c t =>
  by_cases h:128≤c.toNat∧c.toNat≤191
  ·rw [run_cons (nx_t2 h)]
   rcases run_t1 t with e|rfl|⟨d,t',rfl,hd⟩
   ·exact Or.inl e
   ·exact Or.inr (Or.inr (Or.inl ⟨c,rfl,h⟩))
   ·exact Or.inr (Or.inr (Or.inr ⟨c,d,t',rfl,h,hd⟩))
  ·exact Or.inl (run_cons_no (by simp only [nx];rw [if_neg h]))
theorem need_3 {a:UInt8} {q:St} (h:nx .i8 a.toNat=some q) (hq:q=.i32∨q=.u8∨q=.u16) (b:UInt8) :
  nx q b.toNat=none∨(nx q b.toNat=some .i16∧224≤a.toNat∧a.toNat≤239∧(128≤b.toNat∧b.toNat≤191)∧(a.toNat=224→160≤b.toNat)∧(a.toNat=237→b.toNat≤159)):=by
 rcases nx_b0 h with ⟨rfl,h⟩|⟨rfl,h⟩|⟨rfl,h⟩|⟨rfl,h⟩|⟨rfl,h⟩|⟨rfl,h⟩|⟨rfl,h⟩|⟨rfl,h⟩ <;> simp at hq
 all_goals (simp only [nx];split <;> simp <;> omega)
theorem need_4 {a:UInt8} {q:St} (h:nx .i8 a.toNat=some q) (hq:q=.i64∨q=.u32∨q=.u64) (b:UInt8) :
  nx q b.toNat=none∨(nx q b.toNat=some .i32∧240≤a.toNat∧a.toNat≤244∧(128≤b.toNat∧b.toNat≤191)∧(a.toNat=240→144≤b.toNat)∧(a.toNat=244→b.toNat≤143)):=by
 rcases nx_b0 h with ⟨rfl,h⟩|⟨rfl,h⟩|⟨rfl,h⟩|⟨rfl,h⟩|⟨rfl,h⟩|⟨rfl,h⟩|⟨rfl,h⟩|⟨rfl,h⟩ <;> simp at hq
 all_goals (simp only [nx];split <;> simp <;> omega)
theorem chr_none {l:List UInt8} (hl:l≠[]) (h:chr l=none):run .i8 l=none∨∃ p,p≠.i8∧run .i8 l=some p∧l.length≤3:=by
 cases l with
 | nil=>exact absurd rfl hl
 | cons a l =>
  cases hn:nx .i8 a.toNat with
  | none=>exact Or.inl (run_cons_no hn)
  | some q =>
   rw [run_cons hn]
   have k3:(q=.i32∨q=.u8∨q=.u16)→run q l=none∨∃ p,p≠.i8∧run q l=some p∧(a :: l).length≤3:=by
    intro hq
    cases l with
    | nil=>exact Or.inr ⟨q,by rcases hq with rfl|rfl|rfl <;> simp,rfl,by simp⟩
    | cons b l =>
     rcases need_3 hn hq b with e|⟨e,h1,h2,hb,g0,g1⟩
     ·exact Or.inl (run_cons_no e)
     ·rw [run_cons e]
      rcases run_t1 l with e|rfl|⟨c,t,rfl,hc⟩
      ·exact Or.inl e
      ·exact Or.inr ⟨.i16,by simp,rfl,by simp⟩
      ·rw [chr_3 a b c t h1 h2 hb hc g0 g1] at h;cases h
   have k4:(q=.i64∨q=.u32∨q=.u64)→run q l=none∨∃ p,p≠.i8∧run q l=some p∧(a :: l).length≤3:=by
    intro hq
    cases l with
    | nil=>exact Or.inr ⟨q,by rcases hq with rfl|rfl|rfl <;> simp,rfl,by simp⟩
    | cons b l =>
     rcases need_4 hn hq b with e|⟨e,h1,h2,hb,g0,g1⟩
     ·exact Or.inl (run_cons_no e)
     ·rw [run_cons e]
      rcases run_t2 l with e|rfl|⟨c,rfl,hc⟩|⟨c,d,t,rfl,hc,hd⟩
      ·exact Or.inl e
      ·exact Or.inr ⟨.i32,by simp,rfl,by simp⟩
      ·exact Or.inr ⟨.i16,by simp,by rw [run_cons (nx_t2 hc)];rfl,by simp⟩
      ·rw [chr_4 a b c d t h1 h2 hb hc hd g0 g1] at h;cases h
   rcases nx_b0 hn with ⟨rfl,g⟩|⟨rfl,g⟩|⟨rfl,g⟩|⟨rfl,g⟩|⟨rfl,g⟩|⟨rfl,g⟩|⟨rfl,g⟩|⟨rfl,g⟩
   ·rw [chr_1 a l g] at h;cases h
   ·rcases run_t1 l with e|rfl|⟨c,t,rfl,hc⟩
    ·exact Or.inl e
    ·exact Or.inr ⟨.i16,by simp,rfl,by simp⟩
    ·rw [chr_2 a c t g.1 g.2 hc] at h;cases h
   ·exact k3 (by simp)
   ·exact k3 (by simp)
   ·exact k3 (by simp)
   ·exact k4 (by simp)
   ·exact k4 (by simp)
   ·exact k4 (by simp)
theorem chr_encode (r:Nat) (hv:Utf8.valid (r:Int)=true) (t:List UInt8):chr (bl (Utf8.encode (r:Int))++t)=some (r,(bl (Utf8.encode (r:Int))).length):=by
 have hr:=(valid_iff r).1 hv
 have tn:∀ k,k<256→(UInt8.ofNat k).toNat=k:=fun k hk=>by rw [UInt8.toNat_ofNat'];omega
 simp only [Utf8.encode,hv,if_true,Int.toNat_natCast]
 by_cases h1:r<128
 ·rw [if_pos h1]
  simp only [bl,List.cons_append,List.nil_append]
  rw [chr_1 _ _ (by rw [tn _ (by omega)];exact h1),tn _ (by omega)]
  rfl
 ·rw [if_neg h1]
  by_cases h2:r<2048
  ·rw [if_pos h2]
   simp only [bl,List.cons_append,List.nil_append]
   rw [chr_2 _ _ _ (by rw [tn _ (by omega)];omega) (by rw [tn _ (by omega)];omega) (by rw [tn _ (by omega)];omega),tn _ (by omega),tn _ (by omega)]
   simp
   omega
  ·rw [if_neg h2]
   by_cases h3:r<65536
   ·rw [if_pos h3]
    simp only [bl,List.cons_append,List.nil_append]
    rw [chr_3 _ _ _ _ (by rw [tn _ (by omega)];omega) (by rw [tn _ (by omega)];omega) (by rw [tn _ (by omega)];omega) (by rw [tn _ (by omega)];omega) (by rw [tn _ (by omega),tn _ (by omega)];omega) (by rw [tn _ (by omega),tn _ (by omega)];omega),tn _ (by omega),tn _ (by omega),tn _ (by omega)]
    simp
    omega
   ·rw [if_neg h3]
    simp only [bl,List.cons_append,List.nil_append]
    rw [chr_4 _ _ _ _ _ (by rw [tn _ (by omega)];omega) (by rw [tn _ (by omega)];omega) (by rw [tn _ (by omega)];omega) (by rw [tn _ (by omega)];omega) (by rw [tn _ (by omega)];omega) (by rw [tn _ (by omega),tn _ (by omega)];omega) (by rw [tn _ (by omega),tn _ (by omega)];omega),tn _ (by omega),tn _ (by omega),tn _ (by omega),tn _ (by omega)]
    simp
    omega
end Go.Proofs.YtgicnopppgnjjaaGreatDoor.Ut
namespace Go.Proofs.YtgicnopppgnjjaaGreatDoor.Ut
open Go.RowKit
theorem hide {p:Prop} (h:p):Hid p:=h
def sp (a b c d e f g h:Nat):Value:=.agg #[.int .u8 a,.int .u8 b,.int .u8 c,.int .u8 d,.int .u8 e,.int .u8 f,.int .u8 g,.int .u8 h]
theorem below_al {w W:World} {o:Obj} (h:Below w.heap.size w W):Below w.heap.size w (W.alloc o):=h.alloc h.size o
theorem below_set {w W:World} {i o:Nat} {v:Value} (h:Below w.heap.size w W) (hi:w.heap.size≤i):Below w.heap.size w (W.setCell ⟨i,o,none⟩ v):=h.setCell hi v
theorem below_then {w W W1:World} (h:Below w.heap.size w W) (hb:Below W.heap.size W W1):Below w.heap.size w W1:=h.trans (hb.mono h.size)
theorem next_any (a b c d e f g h n:Nat) (w:World) :
  Calls Tryz.prog 236 #[sp a b c d e f g h,.int .u8 n] w fun r w'=>r=.returned (.tuple (if a≤n∧n≤b then #[sp c d e f g h 0 0,.bool true] else #[sp 0 0 0 0 0 0 0 0,.bool false]))∧Below w.heap.size w w':=by
 unfold sp
 by_cases h1:(n:Int)<a
 ·rw [if_neg (by omega)]
  go_enter Tryz.func236, Tryz.ntmps236
  go_wp2
  exact bodyPost_ret (v:=.tuple #[.agg #[.int .u8 0,.int .u8 0,.int .u8 0,.int .u8 0,.int .u8 0,.int .u8 0,.int .u8 0,.int .u8 0],.bool false]) (by simp [results,Tryz.results236,go_sem]) rfl ⟨rfl,below_al (below_al (Below.refl _ _))⟩
 ·by_cases h2:(b:Int)<n
  ·rw [if_neg (by omega)]
   go_enter Tryz.func236, Tryz.ntmps236
   go_wp2
   exact bodyPost_ret (v:=.tuple #[.agg #[.int .u8 0,.int .u8 0,.int .u8 0,.int .u8 0,.int .u8 0,.int .u8 0,.int .u8 0,.int .u8 0],.bool false]) (by simp [results,Tryz.results236,go_sem]) rfl ⟨rfl,below_al (below_al (Below.refl _ _))⟩
  ·rw [if_pos (by omega)]
   go_enter Tryz.func236, Tryz.ntmps236
   go_wp2
   exact bodyPost_ret (v:=.tuple #[.agg #[.int .u8 c,.int .u8 d,.int .u8 e,.int .u8 f,.int .u8 g,.int .u8 h,.int .u8 0,.int .u8 0],.bool true]) (by simp [results,Tryz.results236,go_sem]) rfl ⟨rfl,by repeat (first|exact Below.refl _ _|refine below_al ?_|refine below_set ?_ (by omega))⟩
def spV:St→Value
 | .i8=>sp 0 0 0 0 0 0 0 0
 | .i16=>sp 128 191 0 0 0 0 0 0
 | .i32=>sp 128 191 128 191 0 0 0 0
 | .i64=>sp 128 191 128 191 128 191 0 0
 | .u8=>sp 160 191 128 191 0 0 0 0
 | .u16=>sp 128 159 128 191 0 0 0 0
 | .u32=>sp 144 191 128 191 128 191 0 0
 | .u64=>sp 128 143 128 191 128 191 0 0
def stV:Option St→Value
 | none=>.tuple #[sp 0 0 0 0 0 0 0 0,.bool false]
 | some q=>.tuple #[spV q,.bool true]
theorem next_st (p:St) (hp:p≠.i8) (n:Nat) (w:World) :
  Calls Tryz.prog 236 #[spV p,.int .u8 n] w fun r w'=>r=.returned (stV (nx p n))∧Below w.heap.size w w':=by
 have key:∀ (a b c d e f g h:Nat) (o:Option St),(stV o=.tuple (if a≤n∧n≤b then #[sp c d e f g h 0 0,.bool true] else #[sp 0 0 0 0 0 0 0 0,.bool false]))→Calls Tryz.prog 236 #[sp a b c d e f g h,.int .u8 n] w fun r w'=>r=.returned (stV o)∧Below w.heap.size w w':=by
  intro a b c d e f g h o ho
  rw [ho]
  exact next_any a b c d e f g h n w
 cases p
 ·exact absurd rfl hp
 all_goals (refine key _ _ _ _ _ _ _ _ _ ?_;simp only [nx];split <;> rfl)
def lgC:Array Value:=#[.int .u8 194,.int .u8 223,.int .u8 128,.int .u8 191,.int .u8 0,.int .u8 0,.int .u8 0,.int .u8 0,.int .u8 224,.int .u8 224,.int .u8 160,.int .u8 191,.int .u8 128,.int .u8 191,.int .u8 0,.int .u8 0,.int .u8 225,.int .u8 236,.int .u8 128,.int .u8 191,.int .u8 128,.int .u8 191,.int .u8 0,.int .u8 0,.int .u8 237,.int .u8 237,.int .u8 128,.int .u8 159,.int .u8 128,.int .u8 191,.int .u8 0,.int .u8 0,.int .u8 238,.int .u8 239,.int .u8 128,.int .u8 191,.int .u8 128,.int .u8 191,.int .u8 0,.int .u8 0,.int .u8 240,.int .u8 240,.int .u8 144,.int .u8 191,.int .u8 128,.int .u8 191,.int .u8 128,.int .u8 191,.int .u8 241,.int .u8 243,.int .u8 128,.int .u8 191,.int .u8 128,.int .u8 191,.int .u8 128,.int .u8 191,.int .u8 244,.int .u8 244,.int .u8 128,.int .u8 143,.int .u8 128,.int .u8 191,.int .u8 128,.int .u8 191]
structure Gu (w:World):Prop where
 bt:∃ t fr,w.heap[4]?=some (.cells #[.int .u8 0,.int .u8 0,.int .u8 0,.int .u8 0,.int .u8 0,.int .u8 0,.int .u8 0,.int .u8 0] t fr)
 lg:∃ t fr,w.heap[6]?=some (.cells lgC t fr)
theorem Gu.lt {w:World} (g:Gu w):6<w.heap.size:=by
 obtain ⟨t,fr,h⟩:=g.lg
 exact (Array.getElem?_eq_some_iff.1 h).1
theorem Gu.sz {w:World} (g:Gu w):2≤w.heap.size:=by
 have:=g.lt
 omega
theorem Gu.below {w W:World} (g:Gu w) (h:Below w.heap.size w W):Gu W:=by
 obtain ⟨t,fr,h0⟩:=g.bt
 obtain ⟨t',fr',h1⟩:=g.lg
 have:=g.sz
 exact ⟨⟨t,fr,by rw [h.block 4 ((Array.getElem?_eq_some_iff.1 h0).1)];exact h0⟩,⟨t',fr',by rw [h.block _ g.lt];exact h1⟩⟩
theorem Gu.drew {w:World} (g:Gu w):Gu w.drew:=⟨g.bt,g.lg⟩
theorem Gu.btc {w:World} (g:Gu w) (k:Nat) (hk:k<8):w.cell? ⟨4,k,none⟩=some (.int .u8 0):=by
 obtain ⟨t,fr,h⟩:=g.bt
 simp only [World.cell?,h]
 match k,hk with
 | 0,_=>rfl
 | 1,_=>rfl
 | 2,_=>rfl
 | 3,_=>rfl
 | 4,_=>rfl
 | 5,_=>rfl
 | 6,_=>rfl
 | 7,_=>rfl
def SB (W:World) (i:Nat) (a b c d e f g h:Nat):Prop:=W.heap[i]?=some (.cells #[.int .u8 a,.int .u8 b,.int .u8 c,.int .u8 d,.int .u8 e,.int .u8 f,.int .u8 g,.int .u8 h] 181 (0,0))
section
variable {W W1 : World} {i j o B a b c d e f g h : Nat}
theorem SB.cells (q:SB W i a b c d e f g h):W.cell? ⟨i,0,none⟩=some (.int .u8 a)∧W.cell? ⟨i,1,none⟩=some (.int .u8 b)∧W.cell? ⟨i,2,none⟩=some (.int .u8 c)∧W.cell? ⟨i,3,none⟩=some (.int .u8 d)∧W.cell? ⟨i,4,none⟩=some (.int .u8 e)∧W.cell? ⟨i,5,none⟩=some (.int .u8 f)∧W.cell? ⟨i,6,none⟩=some (.int .u8 g)∧W.cell? ⟨i,7,none⟩=some (.int .u8 h)∧W.frozen? ⟨i,0,none⟩=false∧W.frozen? ⟨i,1,none⟩=false∧W.frozen? ⟨i,2,none⟩=false∧W.frozen? ⟨i,3,none⟩=false∧W.frozen? ⟨i,4,none⟩=false∧W.frozen? ⟨i,5,none⟩=false∧W.frozen? ⟨i,6,none⟩=false∧W.frozen? ⟨i,7,none⟩=false:=by
 unfold SB at q
 simp [World.cell?,World.frozen?,q]
theorem SB.lt (q:SB W i a b c d e f g h):i<W.heap.size:=by
 unfold SB at q
 by_cases hlt:i<W.heap.size
 ·exact hlt
 ·have hn:W.heap[i]?=none:=by simp;omega
  rw [hn] at q;cases q
theorem SB.below (q:SB W i a b c d e f g h) (hb:Below B W W1) (hi:i<B):SB W1 i a b c d e f g h:=by
 unfold SB at q ⊢;rw [hb.block i hi];exact q
theorem SB.other {v:Value} (q:SB W i a b c d e f g h) (hij:i≠j):SB (W.setCell ⟨j,o,none⟩ v) i a b c d e f g h:=by
 unfold SB at q ⊢;rw [Below.heap_setCell _ _ _ _ hij];exact q
theorem SB.alloc (q:SB W i a b c d e f g h) (o:Obj):SB (W.alloc o) i a b c d e f g h:=by
 have hl:=q.lt
 unfold SB at q ⊢
 rw [←q]
 exact Below.heap_alloc W o i hl
theorem SB.drew (q:SB W i a b c d e f g h):SB W.drew i a b c d e f g h:=q
theorem SB.set {a' b' c' d' e' f' g' h':Nat} (q:SB W i a b c d e f g h):SB ((((((((W.setCell ⟨i,0,none⟩ (.int .u8 a')).setCell ⟨i,1,none⟩ (.int .u8 b')).setCell ⟨i,2,none⟩ (.int .u8 c')).setCell ⟨i,3,none⟩ (.int .u8 d')).setCell ⟨i,4,none⟩ (.int .u8 e')).setCell ⟨i,5,none⟩ (.int .u8 f')).setCell ⟨i,6,none⟩ (.int .u8 g')).setCell ⟨i,7,none⟩ (.int .u8 h')) i a' b' c' d' e' f' g' h':=by
 unfold SB at q ⊢
 simp only [World.setCell,Array.getElem?_modify,if_true,q,Option.map_some]
 simp
end
theorem sb_new (w:World) (a b c d e f g h:Nat):SB (w.alloc (.cells #[.int .u8 a,.int .u8 b,.int .u8 c,.int .u8 d,.int .u8 e,.int .u8 f,.int .u8 g,.int .u8 h] 181)) w.heap.size a b c d e f g h:=by
 unfold SB
 show (w.heap.push _)[w.heap.size]?=_
 simp
theorem sb_new2 (w:World) (o:Obj) (a b c d e f g h:Nat):SB ((w.alloc o).alloc (.cells #[.int .u8 a,.int .u8 b,.int .u8 c,.int .u8 d,.int .u8 e,.int .u8 f,.int .u8 g,.int .u8 h] 181)) (w.heap.size + 1) a b c d e f g h:=by
 have:=sb_new (w.alloc o) a b c d e f g h
 simpa using this
theorem res_sb {fn:Func} {p r:Tmp} (hf:fn.results=#[.cell p 181,.tmp r]) (tmps:Array Value) (W:World) (i:Nat) (v:Value) {a b c d e f g h:Nat} (hp:tmps.getD p undef=.pointer (some ⟨i,0,none⟩)) (hq:tmps.getD r undef=v) (hS:SB W i a b c d e f g h) :
  (results fn tmps).run Tryz.prog W=.ok (.tuple #[.agg #[.int .u8 a,.int .u8 b,.int .u8 c,.int .u8 d,.int .u8 e,.int .u8 f,.int .u8 g,.int .u8 h],v]) W:=by
 have hp':tmps[p]?.getD undef=.pointer (some ⟨i,0,none⟩):=by simpa using hp
 have hq':tmps[r]?.getD undef=v:=by simpa using hq
 simp [results,hf,hp',hq',asAddr,run_loadVar_row W i _ 181 _ _ _ hS Tryz.underlying181 rfl (by kernel_rfl)]
theorem Gu.two {w:World} (g:Gu w):(∀ o1 o2,((w.alloc o1).alloc o2).cell? ⟨4,0,none⟩=some (.int .u8 0))∧(∀ o1 o2,((w.alloc o1).alloc o2).cell? ⟨4,1,none⟩=some (.int .u8 0))∧(∀ o1 o2,((w.alloc o1).alloc o2).cell? ⟨4,2,none⟩=some (.int .u8 0))∧(∀ o1 o2,((w.alloc o1).alloc o2).cell? ⟨4,3,none⟩=some (.int .u8 0))∧(∀ o1 o2,((w.alloc o1).alloc o2).cell? ⟨4,4,none⟩=some (.int .u8 0))∧(∀ o1 o2,((w.alloc o1).alloc o2).cell? ⟨4,5,none⟩=some (.int .u8 0))∧(∀ o1 o2,((w.alloc o1).alloc o2).cell? ⟨4,6,none⟩=some (.int .u8 0))∧(∀ o1 o2,((w.alloc o1).alloc o2).cell? ⟨4,7,none⟩=some (.int .u8 0)):=by
 have k:∀ o1 o2 j,j<8→((w.alloc o1).alloc o2).cell? ⟨4,j,none⟩=some (.int .u8 0):=fun o1 o2 j hj=>(g.below (below_al (below_al (Below.refl _ _)))).btc j hj
 exact ⟨fun o1 o2=>k o1 o2 0 (by omega),fun o1 o2=>k o1 o2 1 (by omega),fun o1 o2=>k o1 o2 2 (by omega),fun o1 o2=>k o1 o2 3 (by omega),fun o1 o2=>k o1 o2 4 (by omega),fun o1 o2=>k o1 o2 5 (by omega),fun o1 o2=>k o1 o2 6 (by omega),fun o1 o2=>k o1 o2 7 (by omega)⟩
theorem eq_sp (p:St) (w:World):(Op.equalIn 10000 181 (spV p) (.agg #[.int .u8 0,.int .u8 0,.int .u8 0,.int .u8 0,.int .u8 0,.int .u8 0,.int .u8 0,.int .u8 0])).run Tryz.prog w=.ok (p==.i8) w:=by
 cases p <;> kernel_rfl
theorem spV_ex (p:St):∃ a b c d e f g h:Nat,spV p=sp a b c d e f g h∧∀ w,(Op.equalIn 10000 181 (.agg #[.int .u8 a,.int .u8 b,.int .u8 c,.int .u8 d,.int .u8 e,.int .u8 f,.int .u8 g,.int .u8 h]) (.agg #[.int .u8 0,.int .u8 0,.int .u8 0,.int .u8 0,.int .u8 0,.int .u8 0,.int .u8 0,.int .u8 0])).run Tryz.prog w=.ok (p==.i8) w:=by
 cases p
 ·exact ⟨_,_,_,_,_,_,_,_,rfl,fun w=>eq_sp .i8 w⟩
 ·exact ⟨_,_,_,_,_,_,_,_,rfl,fun w=>eq_sp .i16 w⟩
 ·exact ⟨_,_,_,_,_,_,_,_,rfl,fun w=>eq_sp .i32 w⟩
 ·exact ⟨_,_,_,_,_,_,_,_,rfl,fun w=>eq_sp .i64 w⟩
 ·exact ⟨_,_,_,_,_,_,_,_,rfl,fun w=>eq_sp .u8 w⟩
 ·exact ⟨_,_,_,_,_,_,_,_,rfl,fun w=>eq_sp .u16 w⟩
 ·exact ⟨_,_,_,_,_,_,_,_,rfl,fun w=>eq_sp .u32 w⟩
 ·exact ⟨_,_,_,_,_,_,_,_,rfl,fun w=>eq_sp .u64 w⟩
theorem stV_ex (o:Option St):∃ a b c d e f g h:Nat,stV o=.tuple #[.agg #[.int .u8 a,.int .u8 b,.int .u8 c,.int .u8 d,.int .u8 e,.int .u8 f,.int .u8 g,.int .u8 h],.bool o.isSome]∧spV (o.getD .i8)=sp a b c d e f g h:=by
 cases o with
 | none=>exact ⟨0,0,0,0,0,0,0,0,rfl,rfl⟩
 | some q =>
  obtain ⟨a,b,c,d,e,f,g,h,e1,_⟩:=spV_ex q
  exact ⟨a,b,c,d,e,f,g,h,by simp only [stV,e1];rfl,e1⟩
set_option maxHeartbeats 1000000 in
theorem step_st (p:St) (hp:p≠.i8) (n:Nat) (w:World) (g:Gu w) :
  Calls Tryz.prog 214 #[spV p,.int .u8 n] w fun r w'=>r=.returned (stV (nx p n))∧Below w.heap.size w w':=by
 obtain ⟨b0,b1,b2,b3,b4,b5,b6,b7⟩:=g.two
 have hsz:=g.sz
 have hnx:=hide (next_st p hp n)
 clear g
 obtain ⟨a,b,c,d,e,f,g,h,e1,heq⟩:=spV_ex p
 have hpf:(p==IntKind.i8)=false:=by cases p <;> simp_all
 rw [hpf] at heq
 obtain ⟨a',b',c',d',e',f',g',h',e2,e3⟩:=stV_ex (nx p n)
 rw [e1,e2] at hnx
 obtain ⟨ob,hob⟩:∃ ob,(nx p n).isSome=ob:=⟨_,rfl⟩
 rw [hob] at hnx e2
 rw [e1,e2]
 clear e1 e2 e3 hp hpf hob
 unfold sp
 have hB:=hide (sb_new2 w (.cells #[.int .u8 a,.int .u8 b,.int .u8 c,.int .u8 d,.int .u8 e,.int .u8 f,.int .u8 g,.int .u8 h] 181) 0 0 0 0 0 0 0 0)
 go_enter Tryz.func214, Tryz.ntmps214
 go_wp2_with (go_at_call 236;refine (hnx.out _).mono ?_;rintro r w1 ⟨rfl,hb1⟩;obtain ⟨c0,c1,c2,c3,c4,c5,c6,c7,f0,f1,f2,f3,f4,f5,f6,f7⟩:=(hB.out.below hb1 (by simp)).cells;have hb2:=hide (below_then (below_al (below_al (Below.refl w.heap.size w))) hb1);clear hb1)
 exact bodyPost_ret (v:=.tuple #[.agg #[.int .u8 a',.int .u8 b',.int .u8 c',.int .u8 d',.int .u8 e',.int .u8 f',.int .u8 g',.int .u8 h'],.bool ob]) (by simp [results,Tryz.results214,go_sem,c0,c1,c2,c3,c4,c5,c6,c7]) rfl ⟨rfl,by (iterate 8 refine below_set ?_ (by omega));exact hb2.out⟩
end Go.Proofs.YtgicnopppgnjjaaGreatDoor.Ut
