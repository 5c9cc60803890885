/- Merged by program: UtRef, UuRef. -/
import Derived.Test.YthodiandebahdaaGreatDoorUZq13
namespace Go.Proofs.YthodiandebahdaaGreatDoor.Ut
open Go.RowKit
set_option linter.unusedSimpArgs false
set_option linter.unusedVariables false
set_option maxHeartbeats 8000000
def lng (x:Nat):Nat:=if x<128 then 1 else if x<192 then 0 else if x<224 then 2 else if x<240 then 3 else if x<248 then 4 else 0
def rem:St→Nat
 | .i8=>0 | .i16=>1 | .i32=>2 | .i64=>3 | .u8=>2 | .u16=>2 | .u32=>3 | .u64=>3
theorem rem_zero {q:St} (h:rem q=0):q=.i8:=by cases q <;> simp [rem] at h ⊢
theorem lng_first {x:Nat} {q:St} (h:nx .i8 x=some q):lng x=1+rem q:=by
 rcases nx_b0 h with ⟨rfl,g⟩|⟨rfl,g⟩|⟨rfl,g⟩|⟨rfl,g⟩|⟨rfl,g⟩|⟨rfl,g⟩|⟨rfl,g⟩|⟨rfl,g⟩ <;> (unfold lng;simp only [rem];repeat (first|rfl|rw [if_pos (by omega)]|rw [if_neg (by omega)]))
theorem rem_step {p q:St} {x:Nat} (hp:p≠.i8)(h:nx p x=some q):rem p=rem q+1:=by
 cases p
 ·exact absurd rfl hp
 all_goals (simp only [nx] at h;split at h <;> simp only [Option.some.injEq,reduceCtorEq] at h;subst h;rfl)
theorem rem_run:∀ (t:List UInt8)(p q:St),run p t=some q→t.length≤rem p→rem q+t.length=rem p
 | [],p,q,h,_=>by rw [run_nil] at h;obtain rfl:=Option.some.inj h;simp
 | b :: t,p,q,h,hl=>by
  have hp:p≠.i8:=by intro e;subst e;simp [rem] at hl
  cases hn:nx p b.toNat with
  | none=>rw [run_cons_no hn] at h;cases h
  | some q1 =>
   rw [run_cons hn] at h
   have h1:=rem_step hp hn
   simp only [List.length_cons] at hl ⊢
   have:=rem_run t q1 q h (by omega)
   omega
theorem fill (p:St):run p (List.replicate (rem p) 128)=some .i8∨run p (List.replicate (rem p) 191)=some .i8:=by
 cases p <;> first|exact Or.inl (by decide)|exact Or.inr (by decide)
def numA (l:List UInt8)(n:Nat):Nat→Nat
 | 0=>0
 | 1=>(l.getD 0 0).toNat % 2 ^ (7 - n)
 | k+2=>64 * numA l n (k+1)+(l.getD (k+1) 0).toNat % 64
def numV (l:List UInt8)(n:Nat):Nat:=if n=1 then (l.getD 0 0).toNat else numA l n n
theorem chr_num {a:UInt8} {l:List UInt8} {r n:Nat} (h:chr (a :: l)=some (r,n)):n=lng a.toNat∧r=numV (a :: l) n:=by
 rcases chr_cases h with ⟨a',t,e,rfl,h1,rfl⟩|⟨a',b,t,e,rfl,h1,h2,hb,hr⟩|⟨a',b,c,t,e,rfl,h1,h2,hb,hc,g0,g1,hr⟩|⟨a',b,c,d,t,e,rfl,h1,h2,hb,hc,hd,g0,g1,hr⟩
 ·cases e
  exact ⟨by unfold lng;rw [if_pos h1],rfl⟩
 ·cases e
  refine ⟨by unfold lng;rw [if_neg (by omega),if_neg (by omega),if_pos (by omega)],?_⟩
  simp [numV,numA];omega
 ·cases e
  refine ⟨by unfold lng;rw [if_neg (by omega),if_neg (by omega),if_neg (by omega),if_pos (by omega)],?_⟩
  simp [numV,numA];omega
 ·cases e
  refine ⟨by unfold lng;rw [if_neg (by omega),if_neg (by omega),if_neg (by omega),if_neg (by omega),if_pos (by omega)],?_⟩
  simp [numV,numA];omega
theorem chr_of_bytes {l:List UInt8} {r n:Nat} (hv:Utf8.valid (r:Int)=true)(hb:bl (Utf8.encode (r:Int))=l.take n)(hn:n≤l.length):chr l=some (r,n):=by
 have h:=chr_encode r hv (l.drop n)
 rw [hb,List.take_append_drop,List.length_take,Nat.min_eq_left hn] at h
 exact h
theorem chr_app' {l:List UInt8} {r n:Nat} (h:chr l=some (r,n))(t:List UInt8):chr (l++t)=some (r,n):=by
 obtain ⟨n1,n4,nl,_,hv,hb⟩:=chr_some h
 have h2:=chr_encode r hv (l.drop n++t)
 rw [hb,←List.append_assoc,List.take_append_drop,List.length_take,Nat.min_eq_left nl] at h2
 exact h2
theorem ok_chr' {l:List UInt8} (hl:l≠[])(h:run .i8 l=some .i8):∃ r n,chr l=some (r,n)∧run .i8 (l.drop n)=some .i8:=by
 cases hc:chr l with
 | none =>
  rcases chr_none hl hc with e|⟨p,hp,e,_⟩
  ·rw [h] at e;cases e
  ·rw [h] at e;exact absurd (Option.some.inj e).symm hp
 | some rn =>
  obtain ⟨r,n⟩:=rn
  refine ⟨r,n,rfl,?_⟩
  have:=(chr_some hc).2.2.2.1
  rw [←List.take_append_drop n l,run_app this] at h
  exact h
theorem full_none {a:UInt8} {t:List UInt8} (hc:chr (a :: t)=none)(hn:lng a.toNat≤(a :: t).length):run .i8 (a :: t)=none:=by
 cases hx:nx .i8 a.toNat with
 | none=>exact run_cons_no hx
 | some q =>
  have h1:=lng_first hx
  simp only [List.length_cons] at hn
  rw [run_cons hx]
  cases hr:run q (t.take (rem q)) with
  | none=>rw [←List.take_append_drop (rem q) t];exact run_app_no hr
  | some p =>
   have h2:=rem_run _ _ _ hr (by rw [List.length_take];omega)
   rw [List.length_take,Nat.min_eq_left (by omega)] at h2
   obtain rfl:=rem_zero (q:=p) (by omega)
   have h3:run .i8 (a :: t.take (rem q))=some .i8:=by rw [run_cons hx];exact hr
   obtain ⟨r,n,h4,_⟩:=ok_chr' (by simp) h3
   have h5:=chr_app' h4 (t.drop (rem q))
   rw [List.cons_append,List.take_append_drop,hc] at h5
   cases h5
def cnd (l:List UInt8)(n r:Nat):Bool:=Utf8.valid (r:Int) && ((bl (Utf8.encode (r:Int))).take l.length==l) && decide ((Utf8.encode (r:Int)).size=n)
theorem cnd_some {l:List UInt8} {n r:Nat} (h:Utf8.valid (r:Int)=true)(h2:(bl (Utf8.encode (r:Int))).take l.length=l):(run .i8 l).isSome=true:=by
 have h3:=chr_encode r h []
 rw [List.append_nil] at h3
 have h4:=(chr_some h3).2.2.2.1
 rw [List.take_length] at h4
 cases hr:run .i8 l with
 | some q=>rfl
 | none =>
  rw [←List.take_append_drop l.length (bl (Utf8.encode (r:Int))),h2,run_app_no hr] at h4
  cases h4
theorem some_cnd {a:UInt8} {t:List UInt8} (hr:(run .i8 (a :: t)).isSome=true)(hn:(a :: t).length<lng a.toNat) :
  cnd (a :: t) (lng a.toNat) (numV ((a :: t)++List.replicate (lng a.toNat - (a :: t).length) 128) (lng a.toNat))=true∨cnd (a :: t) (lng a.toNat) (numV ((a :: t)++List.replicate (lng a.toNat - (a :: t).length) 191) (lng a.toNat))=true:=by
 cases hx:nx .i8 a.toNat with
 | none=>rw [run_cons_no hx] at hr;cases hr
 | some q =>
  have h1:=lng_first hx
  rw [run_cons hx] at hr
  simp only [List.length_cons] at hn ⊢
  obtain ⟨p,hp⟩:=Option.isSome_iff_exists.1 hr
  have h2:=rem_run _ _ _ hp (by omega)
  have hm:lng a.toNat - (t.length+1)=rem p:=by omega
  rw [hm]
  have key:∀ x:UInt8,run p (List.replicate (rem p) x)=some .i8→cnd (a :: t) (lng a.toNat) (numV ((a :: t)++List.replicate (rem p) x) (lng a.toNat))=true:=by
   intro x hxr
   have h3:run .i8 ((a :: t)++List.replicate (rem p) x)=some .i8:=by
    rw [List.cons_append,run_cons hx,run_app hp];exact hxr
   obtain ⟨r,n,h4,_⟩:=ok_chr' (by simp) h3
   rw [List.cons_append] at h4
   obtain ⟨e1,e2⟩:=chr_num h4
   obtain ⟨_,_,nl,_,hv,hb⟩:=chr_some h4
   rw [List.cons_append,←e1,←e2]
   have hlen:(a :: (t++List.replicate (rem p) x)).length=n:=by simp;omega
   rw [←hlen,List.take_length] at hb
   unfold cnd
   rw [hv,hb]
   have hsz:(Utf8.encode (r:Int)).size=n:=by rw [←bl_length,hb,hlen]
   rw [hsz]
   simp
  rcases fill p with h|h
  ·exact Or.inl (key 128 h)
  ·exact Or.inr (key 191 h)
theorem ris_any (r:Int)(w:World)(h0:-9223372036854775808≤r)(h1:r≤9223372036854775807) :
  Calls Tryz.prog 169 #[.int .i64 r] w fun e w'=>e=.returned (.bool (Utf8.valid r))∧w'=w:=by
 have e:Utf8.valid r=decide ((0≤r∧r≤1114111)∧(r<55296∨57343<r)):=by
  simp only [Utf8.valid]
  rw [Bool.eq_iff_iff]
  simp only [Bool.or_eq_true,Bool.and_eq_true,decide_eq_true_eq]
  omega
 rw [e]
 go_enter Tryz.func169, Tryz.ntmps169
 go_wp2
 all_goals
  go_ret
  refine ⟨congrArg Ending.returned (show Value.bool _=Value.bool _ from congrArg Value.bool ?_),rfl⟩
  first
   | rfl
   | (rw [Bool.eq_iff_iff];simp;omega)
theorem rlong_any (x:Nat)(w:World)(hx:x≤255):Calls Tryz.prog 167 #[.int .u8 x] w fun e w'=>e=.returned (.int .i64 (lng x:Nat))∧w'=w:=by
 have key:∀ m:Nat,lng x=m→(m=if x<128 then 1 else if x<192 then 0 else if x<224 then 2 else if x<240 then 3 else if x<248 then 4 else 0)→Calls Tryz.prog 167 #[.int .u8 x] w fun e w'=>e=.returned (.int .i64 (m:Nat))∧w'=w:=by
  intro m _ hm
  by_cases c1:(x:Int)<128
  ·rw [if_pos (by omega)] at hm;subst hm
   go_enter Tryz.func167, Tryz.ntmps167
   go_wp2
   go_ret
   exact ⟨rfl,rfl⟩
  ·rw [if_neg (by omega)] at hm
   by_cases c2:(x:Int)<192
   ·rw [if_pos (by omega)] at hm;subst hm
    have d2:¬ ((192:Int)≤x):=by omega
    have d3:¬ ((224:Int)≤x):=by omega
    have d4:¬ ((240:Int)≤x):=by omega
    go_enter Tryz.func167, Tryz.ntmps167
    go_wp2
    go_ret
    exact ⟨rfl,rfl⟩
   ·rw [if_neg (by omega)] at hm
    by_cases c3:(x:Int)<224
    ·rw [if_pos (by omega)] at hm;subst hm
     have d2:(192:Int)≤x:=by omega
     go_enter Tryz.func167, Tryz.ntmps167
     go_wp2
     go_ret
     exact ⟨rfl,rfl⟩
    ·rw [if_neg (by omega)] at hm
     by_cases c4:(x:Int)<240
     ·rw [if_pos (by omega)] at hm;subst hm
      have d2:(192:Int)≤x:=by omega
      have d3:(224:Int)≤x:=by omega
      go_enter Tryz.func167, Tryz.ntmps167
      go_wp2
      go_ret
      exact ⟨rfl,rfl⟩
     ·rw [if_neg (by omega)] at hm
      have d2:(192:Int)≤x:=by omega
      have d3:(224:Int)≤x:=by omega
      have d4:(240:Int)≤x:=by omega
      by_cases c5:(x:Int)<248
      ·rw [if_pos (by omega)] at hm;subst hm
       go_enter Tryz.func167, Tryz.ntmps167
       go_wp2
       go_ret
       exact ⟨rfl,rfl⟩
      ·rw [if_neg (by omega)] at hm;subst hm
       go_enter Tryz.func167, Tryz.ntmps167
       go_wp2
       go_ret
       exact ⟨rfl,rfl⟩
 exact key _ rfl (by unfold lng;rfl)
theorem getD_bl (s:ByteArray)(k:Nat)(h:k<s.size):(bl s).getD k 0=s[k]:=by
 rw [List.getD,List.getElem?_eq_getElem (by rw [bl_length];exact h),bl_get s k h];rfl
theorem numA_le (l:List UInt8)(n:Nat):∀ k,1≤k→k≤4→numA l n k≤200000000
 | 0,h,_=>by omega
 | 1,_,_=>by
  simp only [numA]
  have:=(l.getD 0 0).toNat_lt
  have:=Nat.mod_le (l.getD 0 0).toNat (2 ^ (7 - n))
  omega
 | 2,_,_=>by
  have h1:numA l n 1≤255:=by
   simp only [numA]
   have:=(l.getD 0 0).toNat_lt
   have:=Nat.mod_le (l.getD 0 0).toNat (2 ^ (7 - n))
   omega
  have e:numA l n 2=64 * numA l n 1+(l.getD 1 0).toNat % 64:=rfl
  omega
 | 3,_,_=>by
  have h1:numA l n 1≤255:=by
   simp only [numA]
   have:=(l.getD 0 0).toNat_lt
   have:=Nat.mod_le (l.getD 0 0).toNat (2 ^ (7 - n))
   omega
  have e:numA l n 2=64 * numA l n 1+(l.getD 1 0).toNat % 64:=rfl
  have e3:numA l n 3=64 * numA l n 2+(l.getD 2 0).toNat % 64:=rfl
  omega
 | 4,_,_=>by
  have h1:numA l n 1≤255:=by
   simp only [numA]
   have:=(l.getD 0 0).toNat_lt
   have:=Nat.mod_le (l.getD 0 0).toNat (2 ^ (7 - n))
   omega
  have e:numA l n 2=64 * numA l n 1+(l.getD 1 0).toNat % 64:=rfl
  have e3:numA l n 3=64 * numA l n 2+(l.getD 2 0).toNat % 64:=rfl
  have e4:numA l n 4=64 * numA l n 3+(l.getD 3 0).toNat % 64:=rfl
  omega
 | k+5,_,h=>by omega
set_option maxRecDepth 100000 in
theorem rnumber_2 (s:ByteArray)(w:World)(h:2≤s.size)(hs:s.size≤281474976710656) :
  Calls Tryz.prog 168 #[.string s,.int .i64 2] w fun e w'=>e=.returned (.int .i64 (numA (bl s) 2 2:Nat))∧Below w.heap.size w w':=by
 have hg0:=getD_bl s 0 (by omega)
 have hx0:=s[0].toNat_lt
 have hb1:numA (bl s) 2 1=s[0].toNat % 32:=by simp only [numA];rw [hg0]
 have hz0:(0:Int)<(s.size:Int):=by omega
 go_enter Tryz.func168, Tryz.ntmps168
 go_wp2_with fail
 go_region_with fail
 all_goals
  go_wp2_with fail
  go_loopw [5,6] (fun r i w'=>∃ k:Nat,r=.int .i64 (numA (bl s) 2 k:Nat)∧i=.int .i64 k∧1≤k∧k≤2∧w'=w.drew) (fun _ i _=>2 - (intOf i).toNat)
  case atStart=>exact ⟨1,by rw [hb1];first|rfl|(congr 1;omega),rfl,Nat.le_refl _,by omega,rfl⟩
  case round =>
   obtain ⟨k,rfl,rfl,hk1,hk2,rfl⟩:=hrel
   have hbd:=numA_le (bl s) 2 k hk1 (by omega)
   by_cases hkn:k<2
   ·have hgk:=getD_bl s k (by omega)
    have hxk:=s[k].toNat_lt
    have hst:numA (bl s) 2 (k+1)=64 * numA (bl s) 2 k+s[k].toNat % 64:=by
     obtain ⟨j,rfl⟩:∃ j,k=j+1:=⟨k - 1,by omega⟩
     simp only [numA]
     rw [hgk]
    have hki:(k:Int)<2:=by omega
    have hks:(k:Int)<(s.size:Int):=by omega
    obtain ⟨N,hN⟩:∃ N,numA (bl s) 2 k=N:=⟨_,rfl⟩
    rw [hN] at hst hbd ⊢
    have hst:=hide hst
    clear hN hgk hg0 hb1
    go_wp2
    refine ⟨⟨k+1,?_,by go_num,by omega,by omega,by first|rfl|trivial⟩,by simp [intOf];omega⟩
    rw [hst.out]
    show Value.int _ _=Value.int _ _
    first|rfl|(congr 1;omega)
   ·obtain rfl:k=2:=by omega
    go_wp2
    go_ret
    exact ⟨rfl,(Below.refl _ _).drew⟩
set_option maxRecDepth 100000 in
theorem rnumber_3 (s:ByteArray)(w:World)(h:3≤s.size)(hs:s.size≤281474976710656) :
  Calls Tryz.prog 168 #[.string s,.int .i64 3] w fun e w'=>e=.returned (.int .i64 (numA (bl s) 3 3:Nat))∧Below w.heap.size w w':=by
 have hg0:=getD_bl s 0 (by omega)
 have hx0:=s[0].toNat_lt
 have hb1:numA (bl s) 3 1=s[0].toNat % 16:=by simp only [numA];rw [hg0]
 have hz0:(0:Int)<(s.size:Int):=by omega
 go_enter Tryz.func168, Tryz.ntmps168
 go_wp2_with fail
 go_region_with fail
 all_goals
  go_wp2_with fail
  go_loopw [5,6] (fun r i w'=>∃ k:Nat,r=.int .i64 (numA (bl s) 3 k:Nat)∧i=.int .i64 k∧1≤k∧k≤3∧w'=w.drew) (fun _ i _=>3 - (intOf i).toNat)
  case atStart=>exact ⟨1,by rw [hb1];first|rfl|(congr 1;omega),rfl,Nat.le_refl _,by omega,rfl⟩
  case round =>
   obtain ⟨k,rfl,rfl,hk1,hk2,rfl⟩:=hrel
   have hbd:=numA_le (bl s) 3 k hk1 (by omega)
   by_cases hkn:k<3
   ·have hgk:=getD_bl s k (by omega)
    have hxk:=s[k].toNat_lt
    have hst:numA (bl s) 3 (k+1)=64 * numA (bl s) 3 k+s[k].toNat % 64:=by
     obtain ⟨j,rfl⟩:∃ j,k=j+1:=⟨k - 1,by omega⟩
     simp only [numA]
     rw [hgk]
    have hki:(k:Int)<3:=by omega
    have hks:(k:Int)<(s.size:Int):=by omega
    obtain ⟨N,hN⟩:∃ N,numA (bl s) 3 k=N:=⟨_,rfl⟩
    rw [hN] at hst hbd ⊢
    have hst:=hide hst
    clear hN hgk hg0 hb1
    go_wp2
    refine ⟨⟨k+1,?_,by go_num,by omega,by omega,by first|rfl|trivial⟩,by simp [intOf];omega⟩
    rw [hst.out]
    show Value.int _ _=Value.int _ _
    first|rfl|(congr 1;omega)
   ·obtain rfl:k=3:=by omega
    go_wp2
    go_ret
    exact ⟨rfl,(Below.refl _ _).drew⟩
set_option maxRecDepth 100000 in
theorem rnumber_4 (s:ByteArray)(w:World)(h:4≤s.size)(hs:s.size≤281474976710656) :
  Calls Tryz.prog 168 #[.string s,.int .i64 4] w fun e w'=>e=.returned (.int .i64 (numA (bl s) 4 4:Nat))∧Below w.heap.size w w':=by
 have hg0:=getD_bl s 0 (by omega)
 have hx0:=s[0].toNat_lt
 have hb1:numA (bl s) 4 1=s[0].toNat % 8:=by simp only [numA];rw [hg0]
 have hz0:(0:Int)<(s.size:Int):=by omega
 go_enter Tryz.func168, Tryz.ntmps168
 go_wp2_with fail
 go_region_with fail
 all_goals
  go_wp2_with fail
  go_loopw [5,6] (fun r i w'=>∃ k:Nat,r=.int .i64 (numA (bl s) 4 k:Nat)∧i=.int .i64 k∧1≤k∧k≤4∧w'=w.drew) (fun _ i _=>4 - (intOf i).toNat)
  case atStart=>exact ⟨1,by rw [hb1];first|rfl|(congr 1;omega),rfl,Nat.le_refl _,by omega,rfl⟩
  case round =>
   obtain ⟨k,rfl,rfl,hk1,hk2,rfl⟩:=hrel
   have hbd:=numA_le (bl s) 4 k hk1 (by omega)
   by_cases hkn:k<4
   ·have hgk:=getD_bl s k (by omega)
    have hxk:=s[k].toNat_lt
    have hst:numA (bl s) 4 (k+1)=64 * numA (bl s) 4 k+s[k].toNat % 64:=by
     obtain ⟨j,rfl⟩:∃ j,k=j+1:=⟨k - 1,by omega⟩
     simp only [numA]
     rw [hgk]
    have hki:(k:Int)<4:=by omega
    have hks:(k:Int)<(s.size:Int):=by omega
    obtain ⟨N,hN⟩:∃ N,numA (bl s) 4 k=N:=⟨_,rfl⟩
    rw [hN] at hst hbd ⊢
    have hst:=hide hst
    clear hN hgk hg0 hb1
    go_wp2
    refine ⟨⟨k+1,?_,by go_num,by omega,by omega,by first|rfl|trivial⟩,by simp [intOf];omega⟩
    rw [hst.out]
    show Value.int _ _=Value.int _ _
    first|rfl|(congr 1;omega)
   ·obtain rfl:k=4:=by omega
    go_wp2
    go_ret
    exact ⟨rfl,(Below.refl _ _).drew⟩
theorem rnumber_any (s:ByteArray)(n:Nat)(w:World)(h1:1≤n)(h4:n≤4)(h:n≤s.size)(hs:s.size≤281474976710656) :
  Calls Tryz.prog 168 #[.string s,.int .i64 n] w fun e w'=>e=.returned (.int .i64 (numV (bl s) n:Nat))∧Below w.heap.size w w':=by
 match n,h1,h4 with
 | 1,_,_ =>
  have hg0:=getD_bl s 0 (by omega)
  have e:numV (bl s) 1=s[0].toNat:=by unfold numV;rw [if_pos rfl,hg0]
  rw [e]
  have hz0:(0:Int)<(s.size:Int):=by omega
  have hx0:=s[0].toNat_lt
  clear e hg0
  go_enter Tryz.func168, Tryz.ntmps168
  go_wp2
  go_ret
  exact ⟨rfl,Below.refl _ _⟩
 | 2,_,_=>exact rnumber_2 s w h hs
 | 3,_,_=>exact rnumber_3 s w h hs
 | 4,_,_=>exact rnumber_4 s w h hs
theorem numV_le (l:List UInt8)(n:Nat)(h1:1≤n)(h4:n≤4):numV l n≤200000000:=by
 unfold numV
 split
 ·have:=(l.getD 0 0).toNat_lt;omega
 ·exact numA_le l n n h1 h4
theorem SL.cells (w:World)(l:List UInt8)(T:TypeId)(cs:Array Value)(hc:cs=(l.map fun c:UInt8=>Value.int .u8 (c.toNat:Int)).toArray)(hl:l.length≤100):SL (w.alloc (.cells cs T)) (.slice (some ⟨w.heap.size,0,none⟩) l.length l.length) l:=by
 have ml:maxLen=2 ^ 63 - 1:=rfl
 refine Or.inr ⟨⟨w.heap.size,0,none⟩,l.length,rfl,Nat.le_refl _,by omega,fun i hi=>⟨by simp,?_⟩⟩
 have e1:(⟨w.heap.size,0,none⟩:Addr).add i=⟨w.heap.size,i,none⟩:=by unfold Addr.add;split <;> simp_all
 rw [e1,hc]
 simp [hi]
theorem u8n {k:Nat} (h:k<256):((UInt8.ofNat k).toNat:Int)=k:=by rw [UInt8.toNat_ofNat'];omega
theorem u8w {z:Int} (h:0≤z)(h2:z<256):IntKind.u8.wrap z=z:=by rw [IntKind.wrap_u8];omega
set_option maxRecDepth 100000 in
theorem rbytes_any (r:Nat)(w:World)(hv:Utf8.valid (r:Int)=true) :
  Calls Tryz.prog 170 #[.int .i64 r] w fun e w'=>e=.returned (.string (Utf8.encode (r:Int)))∧Below w.heap.size w w':=by
 have hr:=(valid_iff r).1 hv
 have henc:Utf8.encode (r:Int)=if r<128 then mkB [UInt8.ofNat r] else if r<2048 then mkB [UInt8.ofNat (192+r / 64),UInt8.ofNat (128+r % 64)] else if r<65536 then mkB [UInt8.ofNat (224+r / 4096),UInt8.ofNat (128+r / 64 % 64),UInt8.ofNat (128+r % 64)] else mkB [UInt8.ofNat (240+r / 262144),UInt8.ofNat (128+r / 4096 % 64),UInt8.ofNat (128+r / 64 % 64),UInt8.ofNat (128+r % 64)]:=by
  simp only [Utf8.encode,hv,if_true,Int.toNat_natCast]
  rfl
 rw [henc]
 clear henc hv
 by_cases c1:(r:Int)<128
 ·rw [if_pos (by omega)]
  have hw:IntKind.u8.wrap (r:Int)=r:=u8w (by omega) (by omega)
  have hcv:=(SL.cells w [UInt8.ofNat r] 5 #[.int .u8 (r:Int)] (by simp only [List.map_cons,List.map_nil];rw [u8n (by omega)]) (by simp)).conv
  simp only [List.length_cons,List.length_nil] at hcv
  clear hr
  go_enter Tryz.func170, Tryz.ntmps170
  go_wp2
  go_ret
  exact ⟨rfl,below_al (Below.refl _ _)⟩
 ·rw [if_neg (by omega)]
  by_cases c2:(r:Int)<2048
  ·rw [if_pos (by omega)]
   obtain ⟨y0,hy0⟩:∃ y0,192+r / 64=y0:=⟨_,rfl⟩
   obtain ⟨y1,hy1⟩:∃ y1,128+r % 64=y1:=⟨_,rfl⟩
   have z0:(192:Int)+(r:Int) / 64=(y0:Int):=by omega
   have z1:(128:Int)+(r:Int) % 64=(y1:Int):=by omega
   rw [hy0,hy1]
   have b0:y0<256:=by omega
   have b1:y1<256:=by omega
   have u0:IntKind.u8.wrap (y0:Int)=y0:=u8w (by omega) (by omega)
   have u1:IntKind.u8.wrap (y1:Int)=y1:=u8w (by omega) (by omega)
   have hcv:=(SL.cells w [UInt8.ofNat y0,UInt8.ofNat y1] 5 #[.int .u8 (y0:Int),.int .u8 (y1:Int)] (by simp only [List.map_cons,List.map_nil];rw [u8n b0,u8n b1]) (by simp)).conv
   simp only [List.length_cons,List.length_nil] at hcv
   clear hy0 hy1
   go_enter Tryz.func170, Tryz.ntmps170
   go_wp2
   go_ret
   exact ⟨rfl,below_al (Below.refl _ _)⟩
  ·rw [if_neg (by omega)]
   by_cases c3:(r:Int)<65536
   ·rw [if_pos (by omega)]
    obtain ⟨y0,hy0⟩:∃ y0,224+r / 4096=y0:=⟨_,rfl⟩
    obtain ⟨y1,hy1⟩:∃ y1,128+r / 64 % 64=y1:=⟨_,rfl⟩
    obtain ⟨y2,hy2⟩:∃ y2,128+r % 64=y2:=⟨_,rfl⟩
    have z0:(224:Int)+(r:Int) / 4096=(y0:Int):=by omega
    have z1:(128:Int)+(r:Int) / 64 % 64=(y1:Int):=by omega
    have z2:(128:Int)+(r:Int) % 64=(y2:Int):=by omega
    rw [hy0,hy1,hy2]
    have b0:y0<256:=by omega
    have b1:y1<256:=by omega
    have b2:y2<256:=by omega
    have u0:IntKind.u8.wrap (y0:Int)=y0:=u8w (by omega) (by omega)
    have u1:IntKind.u8.wrap (y1:Int)=y1:=u8w (by omega) (by omega)
    have u2:IntKind.u8.wrap (y2:Int)=y2:=u8w (by omega) (by omega)
    have hcv:=(SL.cells w [UInt8.ofNat y0,UInt8.ofNat y1,UInt8.ofNat y2] 5 #[.int .u8 (y0:Int),.int .u8 (y1:Int),.int .u8 (y2:Int)] (by simp only [List.map_cons,List.map_nil];rw [u8n b0,u8n b1,u8n b2]) (by simp)).conv
    simp only [List.length_cons,List.length_nil] at hcv
    clear hy0 hy1 hy2
    go_enter Tryz.func170, Tryz.ntmps170
    go_wp2
    go_ret
    exact ⟨rfl,below_al (Below.refl _ _)⟩
   ·rw [if_neg (by omega)]
    obtain ⟨y0,hy0⟩:∃ y0,240+r / 262144=y0:=⟨_,rfl⟩
    obtain ⟨y1,hy1⟩:∃ y1,128+r / 4096 % 64=y1:=⟨_,rfl⟩
    obtain ⟨y2,hy2⟩:∃ y2,128+r / 64 % 64=y2:=⟨_,rfl⟩
    obtain ⟨y3,hy3⟩:∃ y3,128+r % 64=y3:=⟨_,rfl⟩
    have z0:(240:Int)+(r:Int) / 262144=(y0:Int):=by omega
    have z1:(128:Int)+(r:Int) / 4096 % 64=(y1:Int):=by omega
    have z2:(128:Int)+(r:Int) / 64 % 64=(y2:Int):=by omega
    have z3:(128:Int)+(r:Int) % 64=(y3:Int):=by omega
    rw [hy0,hy1,hy2,hy3]
    have b0:y0<256:=by omega
    have b1:y1<256:=by omega
    have b2:y2<256:=by omega
    have b3:y3<256:=by omega
    have u0:IntKind.u8.wrap (y0:Int)=y0:=u8w (by omega) (by omega)
    have u1:IntKind.u8.wrap (y1:Int)=y1:=u8w (by omega) (by omega)
    have u2:IntKind.u8.wrap (y2:Int)=y2:=u8w (by omega) (by omega)
    have u3:IntKind.u8.wrap (y3:Int)=y3:=u8w (by omega) (by omega)
    have hcv:=(SL.cells w [UInt8.ofNat y0,UInt8.ofNat y1,UInt8.ofNat y2,UInt8.ofNat y3] 5 #[.int .u8 (y0:Int),.int .u8 (y1:Int),.int .u8 (y2:Int),.int .u8 (y3:Int)] (by simp only [List.map_cons,List.map_nil];rw [u8n b0,u8n b1,u8n b2,u8n b3]) (by simp)).conv
    simp only [List.length_cons,List.length_nil] at hcv
    clear hy0 hy1 hy2 hy3
    go_enter Tryz.func170, Tryz.ntmps170
    go_wp2
    go_ret
    exact ⟨rfl,below_al (Below.refl _ _)⟩
end Go.Proofs.YthodiandebahdaaGreatDoor.Ut
