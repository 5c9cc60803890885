/- Merged by program: NnSem, NoOrd, NpFormF, NqAdd, NrSum, OgPrint, JbHex, JcHex, JdText, JeFhex, JfSmall, NuSplit. -/
import Derived.Test.YthodiandebahdaaGreatDoorZy01
namespace Go.Proofs.YthodiandebahdaaGreatDoor
open Go.RowKit
set_option linter.unusedSimpArgs false
set_option linter.unusedVariables false
set_option maxHeartbeats 8000000
def mag (s:ByteArray) (x:Int):Nat:=val (dg s) * 10 ^ (x + 400).toNat
def Zv (n:Bool) (s:ByteArray) (x:Int):Int:=if n then -(mag s x:Int) else mag s x
structure Can (l:List Nat):Prop where
 dgs:Dgs l
 first:∀ c,l.head?=some c→c≠0
 last:∀ c,l.getLast?=some c→c≠0
theorem val_pos_of_last:∀ (l:List Nat),l≠[]→(∀ c,l.getLast?=some c→c≠0)→0<val l
 | [],h,_=>absurd rfl h
 | [a],_,h=>by have:=h a rfl;simp [val];omega
 | a :: b :: l,_,h=>by
  have:=val_pos_of_last (b :: l) (by simp) (fun c hc=>h c (by simpa using hc))
  simp only [val] at this ⊢
  omega
theorem val_mod (l:List Nat) (h:Dgs l):∀ c,l.getLast?=some c→val l % 10=c:=by
 intro c hc
 obtain ⟨l',rfl⟩:∃ l',l=l'++[c]:=⟨l.dropLast,by
  have hne:l≠[]:=by intro e;rw [e] at hc;cases hc
  rw [List.getLast?_eq_some_getLast hne] at hc
  rw [←Option.some.inj hc];exact (List.dropLast_concat_getLast hne).symm⟩
 have:=h c (by simp)
 rw [val_append]
 simp [val]
 omega
theorem val_ge (l:List Nat) (hne:l≠[]) (h:∀ c,l.head?=some c→c≠0):10 ^ (l.length - 1)≤val l:=by
 cases l with
 | nil=>exact absurd rfl hne
 | cons a l =>
  have:=h a rfl
  simp only [val,List.length_cons,Nat.add_sub_cancel]
  have h1:1 * 10 ^ l.length≤a * 10 ^ l.length:=Nat.mul_le_mul_right _ (by omega)
  omega
theorem val_inj:∀ (a b:List Nat),Dgs a→Dgs b→a.length=b.length→val a=val b→a=b
 | [],[],_,_,_,_=>rfl
 | [],_ :: _,_,_,h,_=>by simp at h
 | _ :: _,[],_,_,h,_=>by simp at h
 | d :: a,e :: b,ha,hb,hl,hv=>by
  obtain ⟨h1,h2⟩:=ha.cons
  obtain ⟨h3,h4⟩:=hb.cons
  have hl':a.length=b.length:=by simpa using hl
  simp only [val] at hv
  have la:=val_lt a h2
  have lb:=val_lt b h4
  rw [hl'] at hv la
  have hp:0<10 ^ b.length:=Nat.pow_pos (by decide)
  have e1:=Nat.div_eq_of_lt_le (k:=d) (m:=d * 10 ^ b.length + val a) (n:=10 ^ b.length) (by omega) (by rw [Nat.add_mul];omega)
  have e2:=Nat.div_eq_of_lt_le (k:=e) (m:=e * 10 ^ b.length + val b) (n:=10 ^ b.length) (by omega) (by rw [Nat.add_mul];omega)
  have hde:d=e:=by rw [←e1,←e2,hv]
  subst hde
  rw [val_inj a b h2 h4 hl' (by omega)]
theorem pow_lt_of {a b n:Nat} (h:n<10 ^ b) (h':10 ^ a≤n):a<b:=(Nat.pow_lt_pow_iff_right (by decide:1<10)).1 (Nat.lt_of_le_of_lt h' h)
theorem can_inj {a b:List Nat} (ha:Can a) (hb:Can b) (hna:a≠[]) (hnb:b≠[]) {p q:Nat} (h:val a * 10 ^ p=val b * 10 ^ q):a=b∧p=q:=by
 have key:∀ {a b:List Nat} {p q:Nat},Can a→Can b→a≠[]→b≠[]→val a * 10 ^ p=val b * 10 ^ q→¬ p<q:=by
  intro a b p q ha hb hna hnb h hlt
  have e:val a=val b * 10 ^ (q - p):=by
   have hp:0<10 ^ p:=Nat.pow_pos (by decide)
   apply Nat.eq_of_mul_eq_mul_right hp
   rw [h,Nat.mul_assoc,←Nat.pow_add];congr 2;omega
  have hl:=val_mod a ha.dgs (a.getLast hna) (List.getLast?_eq_some_getLast hna)
  have hc:=ha.last _ (List.getLast?_eq_some_getLast hna)
  rw [e,show q - p=(q - p - 1) + 1 by omega,Nat.pow_succ,←Nat.mul_assoc,Nat.mul_mod_left] at hl
  omega
 have hpq:p=q:=by
  have h1:=key ha hb hna hnb h
  have h2:=key hb ha hnb hna h.symm
  omega
 subst hpq
 have hv:val a=val b:=Nat.eq_of_mul_eq_mul_right (Nat.pow_pos (by decide)) h
 have a1:=val_ge a hna ha.first
 have b1:=val_ge b hnb hb.first
 have a2:=val_lt a ha.dgs
 have b2:=val_lt b hb.dgs
 have hla:0<a.length:=List.length_pos_iff.2 hna
 have hlb:0<b.length:=List.length_pos_iff.2 hnb
 have h1:a.length - 1<b.length:=pow_lt_of b2 (by omega)
 have h2:b.length - 1<a.length:=pow_lt_of a2 (by omega)
 exact ⟨val_inj a b ha.dgs hb.dgs (by omega) hv,rfl⟩
theorem isO_facts {s:ByteArray} {x:Int} (h:isO (bl s) x=true):1≤s.size∧s.size≤40∧-400≤x∧x≤400∧allD (bl s)=true∧Can (dg s)∧dg s≠[]:=by
 simp only [isO,Bool.and_eq_true,decide_eq_true_eq,bne_iff_ne,ne_eq,bl_length] at h
 obtain ⟨⟨⟨⟨⟨h1,h2⟩,h3,h4⟩,h5⟩,h6⟩,h7⟩:=h
 refine ⟨h1,h2,h3,h4,h5,⟨dg_dgs s h5,?_,?_⟩,?_⟩
 ·intro c hc
  have:(dg s).head?=(bl s).head?.map fun c=>c.toNat - 48:=by simp [dg]
  rw [this,head_bl s h1] at hc
  rw [head_bl s h1] at h6
  simp at hc
  have hd:=allD_get s h5 0 h1
  have:s[0].toNat≠48:=fun e=>h6 (by congr 1;exact UInt8.toNat_inj.1 e)
  omega
 ·intro c hc
  have:(dg s).getLast?=(bl s).getLast?.map fun c=>c.toNat - 48:=by simp [dg]
  rw [this,last_bl s h1] at hc
  rw [last_bl s h1] at h7
  simp at hc
  have hd:=allD_get s h5 (s.size - 1) (by omega)
  have:(s[s.size - 1]'(by omega)).toNat≠48:=fun e=>h7 (by congr 1;exact UInt8.toNat_inj.1 e)
  omega
 ·intro e
  have:=dg_length s
  rw [e] at this;simp at this;omega
theorem isZ_facts {n:Bool} {s:ByteArray} {x:Int} (h:isZ n s x=true):n=false∧bl s=[48]∧x=0:=by
 simp [isZ] at h;exact ⟨h.1.1,h.1.2,h.2⟩
theorem isZ_mag {n:Bool} {s:ByteArray} {x:Int} (h:isZ n s x=true):dg s=[0]∧s.size=1∧mag s x=0∧Zv n s x=0:=by
 obtain ⟨rfl,h2,rfl⟩:=isZ_facts h
 have h3:dg s=[0]:=by simp [dg,h2]
 have h4:s.size=1:=by rw [←bl_length,h2];rfl
 have h5:mag s 0=0:=by unfold mag;rw [h3,show val [0]=0 from rfl,Nat.zero_mul]
 exact ⟨h3,h4,h5,by simp [Zv,h5]⟩
theorem isO_pos {s:ByteArray} {x:Int} (h:isO (bl s) x=true):0<mag s x:=by
 obtain ⟨_,_,_,_,_,h6,h7⟩:=isO_facts h
 exact Nat.mul_pos (val_pos_of_last _ h7 h6.last) (Nat.pow_pos (by decide))
theorem bl_inj {s t:ByteArray} (h:bl s=bl t):s=t:=by
 cases s with|mk a=>cases t with|mk b=>simp [bl] at h;rw [h]
theorem dg_inj {s t:ByteArray} (hs:allD (bl s)=true) (ht:allD (bl t)=true) (h:dg s=dg t):s=t:=by
 apply bl_inj
 have hl:s.size=t.size:=by rw [←dg_length,←dg_length,h]
 apply List.ext_getElem
 ·rw [bl_length,bl_length,hl]
 ·intro i h1 h2
  rw [bl_length] at h1 h2
  have e:(dg s)[i]'(by rw [dg_length];exact h1)=(dg t)[i]'(by rw [dg_length];exact h2):=by simp only [h]
  rw [dg_get s i h1,dg_get t i h2] at e
  rw [bl_get s i h1,bl_get t i h2]
  have:=allD_get s hs i h1
  have:=allD_get t ht i h2
  exact UInt8.toNat_inj.1 (by omega)
theorem num_inj {n m:Bool} {s t:ByteArray} {x y:Int} (h1:isN n s x=true) (h2:isN m t y=true) (h:Zv n s x=Zv m t y):n=m∧s=t∧x=y:=by
 simp only [isN,Bool.or_eq_true] at h1 h2
 rcases h1 with h1|h1 <;> rcases h2 with h2|h2
 ·obtain ⟨rfl,a2,rfl⟩:=isZ_facts h1
  obtain ⟨rfl,b2,rfl⟩:=isZ_facts h2
  exact ⟨rfl,bl_inj (a2.trans b2.symm),rfl⟩
 ·have:=(isZ_mag h1).2.2.2
  have:=isO_pos h2
  simp only [Zv] at *
  split at h <;> split at h <;> omega
 ·have:=(isZ_mag h2).2.2.2
  have:=isO_pos h1
  simp only [Zv] at *
  split at h <;> split at h <;> omega
 ·have p1:=isO_pos h1
  have p2:=isO_pos h2
  obtain ⟨a1,a2,a3,a4,a5,a6,a7⟩:=isO_facts h1
  obtain ⟨b1,b2,b3,b4,b5,b6,b7⟩:=isO_facts h2
  have hm:mag s x=mag t y∧n=m:=by
   cases n <;> cases m <;> simp [Zv] at h <;> first|exact ⟨by omega,rfl⟩|(exfalso;omega)
  obtain ⟨e1,e2⟩:=can_inj a6 b6 a7 b7 hm.1
  exact ⟨hm.2,dg_inj a5 b5 e1,by omega⟩
def dl (l:List UInt8):List Nat:=l.map fun c=>c.toNat - 48
def dz (d:List Nat):List Nat:=d.drop (lz d)
def core (d:List Nat):List Nat:=(dz d).take ((dz d).length - tz (dz d))
def formF (neg:Bool) (d:List Nat) (x:Int):Bool×ByteArray×Int×Int :=
 if lz d=d.length then (false,⟨#[48]⟩,0,0)
 else if (core d).length≤40∧-400≤x + tz (dz d)∧x + tz (dz d)≤400 then (neg,mkS (core d),x + tz (dz d),0) else (false,⟨#[]⟩,0,2)
def retF (r:Bool×ByteArray×Int×Int):Ending:=.returned (.tuple #[.agg #[.bool r.1,.string r.2.1,.int .i64 r.2.2.1],.int .i64 r.2.2.2])
theorem lz_le (d:List Nat):lz d≤d.length:=(List.takeWhile_prefix _).length_le
theorem tz_le (d:List Nat):tz d≤d.length:=by have:=lz_le d.reverse;simpa [tz] using this
theorem form_any (neg:Bool) (b o n c:Nat) (d:List Nat) (x:Int) (w:World) (hd:d.length=n) (hn0:0<n) (hn:n≤100000) (hc:n≤c) (hc':c≤100000) (hb:b<w.heap.size)
  (hcell:∀ i (h:i<d.length),w.cell? ⟨b,o + i,none⟩=some (.int .u8 (d[i]:Nat))) (hx:-1000000≤x) (hx':x≤1000000) (hdg:Dgs d) :
  Calls Tryz.prog 177 #[.bool neg,.slice (some ⟨b,o,none⟩) n c,.int .i64 x] w fun e w'=>e=retF (formF neg d x)∧Below w.heap.size w w':=by
 by_cases hz:lz d=n
 ·refine (form_zero neg b o n c d x w hd hn0 hn hc hc' hb hcell hz).mono ?_
  rintro e w' ⟨rfl,hB⟩
  refine ⟨?_,hB⟩
  unfold formF;rw [if_pos (by rw [hd];exact hz)];rfl
 ·have:=lz_le d
  have hl:(dz d).length=n - lz d:=by rw [dz,List.length_drop,hd]
  refine (form_some neg b o n c d (dz d) (core d) (n - lz d) (tz (dz d)) x w hd hn hc hc' hb hcell (by omega) hx hx' rfl rfl rfl (by rw [core,hl]) hdg _ rfl).mono ?_
  rintro e w' ⟨rfl,hB⟩
  refine ⟨?_,hB⟩
  have e1:formF neg d x=if (core d).length≤40∧-400≤x + tz (dz d)∧x + tz (dz d)≤400 then (neg,mkS (core d),x + tz (dz d),0) else (false,⟨#[]⟩,0,2):=by
   unfold formF;rw [if_neg (by rw [hd];exact hz)]
  rw [e1]
  by_cases h:(core d).length≤40∧-400≤x + tz (dz d)∧x + tz (dz d)≤400
  ·rw [if_pos h,decide_eq_true h];rfl
  ·rw [if_neg h,decide_eq_false h];rfl
theorem take_lz (d:List Nat):d.take (lz d)=List.replicate (lz d) 0:=by
 induction d with
 | nil=>rfl
 | cons a d ih =>
  by_cases h:a=0
  ·subst h
   have:lz (0 :: d)=lz d + 1:=by simp [lz]
   rw [this,List.take_succ_cons,ih,List.replicate_succ]
  ·have:lz (a :: d)=0:=by simp [lz,h]
   rw [this];rfl
theorem lz_split (d:List Nat):d=List.replicate (lz d) 0++dz d:=by
 rw [←take_lz,dz,List.take_append_drop]
theorem tz_split (d:List Nat):d=d.take (d.length - tz d)++List.replicate (tz d) 0:=by
 have h:=take_lz d.reverse
 have:=congrArg List.reverse h
 rw [List.reverse_take,List.reverse_reverse,List.length_reverse,List.reverse_replicate] at this
 conv=>lhs;rw [←List.take_append_drop (d.length - tz d) d]
 rw [show d.drop (d.length - tz d)=List.replicate (tz d) 0 from this]
theorem core_split (d:List Nat):d=List.replicate (lz d) 0++(core d++List.replicate (tz (dz d)) 0):=by
 conv=>lhs;rw [lz_split d]
 congr 1
 exact tz_split (dz d)
theorem core_val (d:List Nat):val d=val (core d) * 10 ^ tz (dz d):=by
 conv=>lhs;rw [core_split d]
 rw [val_zero_left,val_zero_right]
theorem lz_head (d:List Nat) (h:lz d<d.length):∀ c,(dz d).head?=some c→c≠0:=by
 intro c hc
 have:=lz_ne d h
 rw [dz,List.head?_drop,List.getElem?_eq_getElem h] at hc
 rw [←Option.some.inj hc];exact this
theorem tz_lt (d:List Nat) (h:lz d<d.length):tz (dz d)<(dz d).length:=by
 have h1:=tz_le (dz d)
 have hl:0<(dz d).length:=by rw [dz,List.length_drop];omega
 by_cases e:tz (dz d)<(dz d).length
 ·exact e
 ·have h2:=tz_split (dz d)
  rw [show (dz d).length - tz (dz d)=0 by omega,List.take_zero,List.nil_append] at h2
  have h3:(dz d).head?=some 0:=by
   rw [h2,List.head?_replicate,if_neg (by omega)]
  exact absurd rfl (lz_head d h 0 h3)
theorem core_len (d:List Nat):(core d).length=(dz d).length - tz (dz d):=by rw [core,List.length_take];omega
theorem core_can (d:List Nat) (h:lz d<d.length) (hd:Dgs d):Can (core d)∧core d≠[]:=by
 have h1:=tz_lt d h
 have hl:=core_len d
 have hne:core d≠[]:=by intro e;rw [e] at hl;simp at hl;omega
 refine ⟨⟨?_,?_,?_⟩,hne⟩
 ·intro x hx
  exact hd x (List.mem_of_mem_drop (List.mem_of_mem_take hx))
 ·intro c hc
  refine lz_head d h c ?_
  rw [core,List.head?_take,if_neg (by omega)] at hc
  exact hc
 ·intro c hc
  have h2:=lz_ne (dz d).reverse (by simpa [tz] using h1)
  rw [List.getElem_reverse] at h2
  rw [core,List.getLast?_take,if_neg (by omega)] at hc
  rw [List.getElem?_eq_getElem (by omega)] at hc
  simp only [Option.some_or] at hc
  have e:(dz d).length - tz (dz d) - 1=(dz d).length - 1 - lz (dz d).reverse:=by unfold tz;omega
  simp only [e] at hc
  rw [←Option.some.inj hc];exact h2
theorem mkS_size (l:List Nat):(mkS l).size=l.length:=by simp [mkS,strOfNums_size]
theorem mkS_bl (l:List Nat):bl (mkS l)=l.map fun v=>UInt8.ofNat (v + 48):=by
 unfold bl mkS
 rw [strOfNums_data,List.map_map]
 apply List.map_congr_left
 intro v _
 show UInt8.ofNat ((v:Int) + 48).toNat=_
 congr 1
theorem ofNat_toNat (v:Nat) (h:v≤9):(UInt8.ofNat (v + 48)).toNat=v + 48:=by
 rw [UInt8.toNat_ofNat'];omega
theorem mkS_dg (l:List Nat) (h:Dgs l):dg (mkS l)=l:=by
 unfold dg
 rw [mkS_bl,List.map_map]
 conv=>rhs;rw [←List.map_id l]
 apply List.map_congr_left
 intro v hv
 show (UInt8.ofNat (v + 48)).toNat - 48=v
 rw [ofNat_toNat v (h v hv)];omega
theorem mkS_all (l:List Nat) (h:Dgs l):allD (bl (mkS l))=true:=by
 rw [mkS_bl]
 unfold allD
 rw [List.all_eq_true]
 intro c hc
 rw [List.mem_map] at hc
 obtain ⟨v,hv,rfl⟩:=hc
 rw [isDig_iff,ofNat_toNat v (h v hv)]
 have:=h v hv
 omega
theorem mkS_isO (l:List Nat) (x:Int) (h:Can l) (hne:l≠[]) (h40:l.length≤40) (hx:-400≤x) (hx':x≤400):isO (bl (mkS l)) x=true:=by
 have hl:1≤l.length:=List.length_pos_iff.2 hne
 simp only [isO,Bool.and_eq_true,decide_eq_true_eq,bne_iff_ne,ne_eq]
 refine ⟨⟨⟨⟨⟨?_,?_⟩,hx,hx'⟩,mkS_all l h.dgs⟩,?_⟩,?_⟩
 ·rw [bl_length,mkS_size];exact hl
 ·rw [bl_length,mkS_size];exact h40
 ·rw [mkS_bl,List.head?_map]
  intro e
  cases hh:l.head? with
  | none=>rw [hh] at e;cases e
  | some v =>
   rw [hh] at e
   have e1:=Option.some.inj e
   have e2:=congrArg UInt8.toNat e1
   have hm:v∈l:=List.mem_of_head? hh
   have h9:=h.dgs v hm
   rw [ofNat_toNat v h9] at e2
   have:=h.first v hh
   have:(48:UInt8).toNat=48:=rfl
   omega
 ·rw [mkS_bl,List.getLast?_map]
  intro e
  cases hh:l.getLast? with
  | none=>rw [hh] at e;cases e
  | some v =>
   rw [hh] at e
   have e1:=Option.some.inj e
   have e2:=congrArg UInt8.toNat e1
   have hm:v∈l:=List.mem_of_getLast? hh
   have h9:=h.dgs v hm
   rw [ofNat_toNat v h9] at e2
   have:=h.last v hh
   have:(48:UInt8).toNat=48:=rfl
   omega
def IsSum (Z:Int) (r:Bool×ByteArray×Int×Int):Prop :=
 (r.2.2.2=0∧isN r.1 r.2.1 r.2.2.1=true∧Zv r.1 r.2.1 r.2.2.1=Z)∨(r=(false,⟨#[]⟩,0,2)∧∀ n s x,isN n s x=true→Zv n s x≠Z)
theorem formF_sum (neg:Bool) (d:List Nat) (x:Int) (hd:Dgs d) (hx:-400≤x):IsSum (if neg then -((val d * 10 ^ (x + 400).toNat:Nat):Int) else (val d * 10 ^ (x + 400).toNat:Nat)) (formF neg d x):=by
 unfold formF
 by_cases hz:lz d=d.length
 ·rw [if_pos hz]
  left
  refine ⟨rfl,rfl,?_⟩
  have h0:val d=0:=by
   rw [lz_split d,dz,hz,List.drop_length,List.append_nil,val_zeros]
  rw [h0]
  have:=(isZ_mag (n:=false) (s:=⟨#[48]⟩) (x:=0) rfl).2.2.2
  rw [this]
  simp
 ·have hlt:lz d<d.length:=by have:=lz_le d;omega
  rw [if_neg hz]
  obtain ⟨hc,hne⟩:=core_can d hlt hd
  have hv:=core_val d
  have hmag:val d * 10 ^ (x + 400).toNat=val (core d) * 10 ^ (x + tz (dz d) + 400).toNat:=by
   rw [hv,Nat.mul_assoc,←Nat.pow_add]
   congr 2
   omega
  by_cases hf:(core d).length≤40∧-400≤x + tz (dz d)∧x + tz (dz d)≤400
  ·rw [if_pos hf]
   left
   have ho:=mkS_isO (core d) (x + tz (dz d)) hc hne hf.1 hf.2.1 hf.2.2
   refine ⟨rfl,by simp [isN,ho],?_⟩
   show Zv neg (mkS (core d)) (x + tz (dz d))=_
   rw [hmag]
   unfold Zv mag
   rw [mkS_dg _ hc.dgs]
  ·rw [if_neg hf]
   right
   refine ⟨rfl,fun n s y h e=>hf ?_⟩
   have hp:0<val d * 10 ^ (x + 400).toNat:=by
    rw [hmag]
    exact Nat.mul_pos (val_pos_of_last _ hne hc.last) (Nat.pow_pos (by decide))
   simp only [isN,Bool.or_eq_true] at h
   rcases h with h|h
   ·have:=(isZ_mag h).2.2.2
    rw [this] at e
    split at e <;> omega
   ·obtain ⟨b1,b2,b3,b4,b5,b6,b7⟩:=isO_facts h
    have hm:mag s y=val d * 10 ^ (x + 400).toNat:=by
     have:=isO_pos h
     unfold Zv at e
     split at e <;> split at e <;> omega
    rw [hmag] at hm
    obtain ⟨e1,e2⟩:=can_inj b6 hc b7 hne hm
    rw [←e1,dg_length]
    refine ⟨b2,?_⟩
    omega
theorem isSum_unique {Z:Int} {r r':Bool×ByteArray×Int×Int} (h:IsSum Z r) (h':IsSum Z r'):r=r':=by
 obtain ⟨n,s,x,e⟩:=r
 obtain ⟨n',s',x',e'⟩:=r'
 rcases h with ⟨h1,h2,h3⟩|⟨h1,h2⟩ <;> rcases h' with ⟨g1,g2,g3⟩|⟨g1,g2⟩
 ·obtain ⟨r1,r2,r3⟩:=num_inj h2 g2 (h3.trans g3.symm)
  simp only at h1 g1 r1 r2 r3
  subst h1 g1 r1 r2 r3
  rfl
 ·exact absurd h3 (g2 _ _ _ h2)
 ·exact absurd g3 (h2 _ _ _ g2)
 ·rw [h1,g1]
def Box (W:World) (i:Nat) (n:Bool) (s:ByteArray) (x:Int):Prop:=W.heap[i]?=some (.cells #[.bool n,.string s,.int .i64 x] 24 (0,0))
theorem Box.cells {W:World} {i:Nat} {n:Bool} {s:ByteArray} {x:Int} (h:Box W i n s x) :
  W.cell? ⟨i,0,none⟩=some (.bool n)∧W.cell? ⟨i,1,none⟩=some (.string s)∧W.cell? ⟨i,2,none⟩=some (.int .i64 x)∧W.frozen? ⟨i,0,none⟩=false∧W.frozen? ⟨i,1,none⟩=false∧W.frozen? ⟨i,2,none⟩=false:=by
 unfold Box at h
 simp [World.cell?,World.frozen?,h]
theorem Box.lt {W:World} {i:Nat} {n:Bool} {s:ByteArray} {x:Int} (h:Box W i n s x):i<W.heap.size:=by
 unfold Box at h
 by_cases hlt:i<W.heap.size
 ·exact hlt
 ·have hn:W.heap[i]?=none:=by simp;omega
  rw [hn] at h;cases h
theorem Box.below {W W1:World} {i B:Nat} {n:Bool} {s:ByteArray} {x:Int} (h:Box W i n s x) (hb:Below B W W1) (hi:i<B):Box W1 i n s x:=by
 unfold Box at h ⊢;rw [hb.block i hi];exact h
theorem Box.only {W W1:World} {i b:Nat} {n:Bool} {s:ByteArray} {x:Int} (h:Box W i n s x) (hb:Only b W W1) (hi:i≠b):Box W1 i n s x:=by
 unfold Box at h ⊢;rw [hb.block i hi];exact h
theorem box_new (w:World) (n:Bool) (s:ByteArray) (x:Int):Box (w.alloc (.cells #[.bool n,.string s,.int .i64 x] 24)) w.heap.size n s x:=by
 unfold Box
 show (w.heap.push _)[w.heap.size]?=_
 simp
theorem Box.alloc {W:World} {i:Nat} {n:Bool} {s:ByteArray} {x:Int} (h:Box W i n s x) (o:Obj):Box (W.alloc o) i n s x:=by
 have hl:=h.lt
 unfold Box at h ⊢
 rw [←h]
 exact Below.heap_alloc W o i hl
theorem isN_all {n:Bool} {s:ByteArray} {x:Int} (h:isN n s x=true):allD (bl s)=true∧1≤s.size∧s.size≤40∧-400≤x∧x≤400∧Dgs (dg s):=by
 cases hz:isZ n s x
 ·have ho:isO (bl s) x=true:=by simpa [isN,hz] using h
  obtain ⟨a1,a2,a3,a4,a5,a6,a7⟩:=isO_facts ho
  exact ⟨a5,a1,a2,a3,a4,a6.dgs⟩
 ·obtain ⟨_,h2,h3⟩:=isZ_facts hz
  have h4:=(isZ_mag hz).2.1
  have h5:allD (bl s)=true:=by rw [h2];rfl
  exact ⟨h5,by omega,by omega,by omega,by omega,dg_dgs s h5⟩
structure Two (na:Bool) (a:ByteArray) (xa:Int) (nb:Bool) (b:ByteArray) (xb y low:Int):Prop where
 n1:isN na a xa=true
 n2:isN nb b xb=true
 le:mag b xb≤mag a xa
 y0:isZ nb b xb=true→y=xa
 y1:isZ nb b xb=false→y=xb
 l0:low=min xa y
theorem own_conv {W:World} {B:Nat} {v:Value} {l:List UInt8} (h:Own W B v l):(convert 32 9 v).run Tryz.prog W=.ok (.string (mkB l)) W:=by
 have hc:=h
 obtain ⟨h0,h⟩:=h
 rcases h with ⟨rfl,hn⟩|⟨g,cap,cur,rfl,hg,hh,h1,h2,h3,h4⟩
 ·have:l=[]:=List.eq_nil_of_length_eq_zero hn
  subst this
  exact run_convert_bytes_nil W 32 5 Tryz.underlying32 Tryz.underlying5 0 0 9 Tryz.underlying9
 ·refine run_convert_bytes_back W 32 9 5 ⟨g,0,none⟩ cap l Tryz.underlying32 Tryz.underlying5 Tryz.underlying9 (fun j hj=>?_)
  have hcells:∀ j u,(bcs l)[j]?=some u→W.cell? ((⟨g,0,none⟩:Addr).add j)=some u:=World.ownsRow.cells hc (g:=g) rfl
  exact hcells j _ (by simp [bcs,List.getElem?_eq_getElem hj])
def sgnB (n:Bool):List UInt8:=if n then [45] else []
def hx (d:Nat):UInt8:=if d<10 then UInt8.ofNat (48 + d) else UInt8.ofNat (87 + d)
def hexL (l:List UInt8):List UInt8:=l.flatMap fun c=>[hx (c.toNat / 16),hx (c.toNat % 16)]
theorem hexL_snoc (l:List UInt8) (c:UInt8):hexL (l++[c])=hexL l++[hx (c.toNat / 16),hx (c.toNat % 16)]:=by simp [hexL]
theorem hexL_len (l:List UInt8):(hexL l).length=2 * l.length:=by
 induction l with
 | nil=>rfl
 | cons a l ih=>simp only [hexL,List.flatMap_cons,List.length_append,List.length_cons,List.length_nil] at ih ⊢;omega
theorem hxd_get (d:Nat) (h:d<16) (h':d<(⟨#[48,49,50,51,52,53,54,55,56,57,97,98,99,100,101,102]⟩:ByteArray).size):(⟨#[48,49,50,51,52,53,54,55,56,57,97,98,99,100,101,102]⟩:ByteArray)[d]=hx d:=by
 have:d=0∨d=1∨d=2∨d=3∨d=4∨d=5∨d=6∨d=7∨d=8∨d=9∨d=10∨d=11∨d=12∨d=13∨d=14∨d=15:=by omega
 rcases this with rfl|rfl|rfl|rfl|rfl|rfl|rfl|rfl|rfl|rfl|rfl|rfl|rfl|rfl|rfl|rfl <;> rfl
theorem step_bytes {w:World} {ops:Array Oper} {o:Oper} {a:Act} {K:Act→World→Prop} {Q:Exit→Act→World→Prop} {E:Prop} (hgd:o.guard=none) (s x:Operand) (ho:o.op=.call {callee:=.builtin .append,args:=#[s,x],argTypes:=#[32,32]})
  (B:Nat) (v:Value) (l:List UInt8) (hs:a.eval s=v) (hown:Own w B v l) (ad:Addr) (m c:Nat) (news:List UInt8) (hx:a.eval x=.slice (some ad) m c) (hm:news.length=m)
  (hnews:∀ j u,(bcs news)[j]?=some u→w.cell? (ad.add j)=some u) (hl:l.length + m≤1000000) (hB:B≤w.heap.size) (hp:0<l.length + m)
  (h:∀ av c' w',Hid (Own w' B (.slice av (l.length + m) c') (l++news))→Hid (Below B w w')→w.heap.size≤w'.heap.size→K (a.put o.dst (.slice av (l.length + m) c')) w') :
  if Region.wanted o (yielded ops a.tmps)=true then Oper.wp Tryz.prog o a w K Q else E:=by
 have hw:Region.wanted o (yielded ops a.tmps)=true:=by simp [Region.wanted,hgd]
 rw [if_pos hw]
 obtain ⟨i0,hi,hz0,hz1,hz2⟩:=info_parts info5
 obtain ⟨v',w',hr,h1,h2,h3⟩:=run_append_own (P:=Tryz.prog) w B 32 o.type 5 i0 _ 1 1 Tryz.underlying32 hi hz0 hz1 hz2 rfl (by decide) v l.length (bcs l) hown ad m c (bcs news) (by rw [bcs_length,hm];simp) hnews (by
  intro u hu
  simp only [bcs,List.mem_map] at hu
  obtain ⟨c,_,rfl⟩:=hu
  rfl) (by unfold maxLen;omega) (by omega) hB
 unfold Oper.wp execOp
 simp only [ho,resolve,invoke,builtin,Sem.run_bind,Sem.run_pure,Result.andThen_ok,List.map_toArray,List.map_cons,List.map_nil,hs,hx,hr]
 have hO:Own w' B v' (l++news):=by unfold Own;rw [bcs_append,List.length_append,hm];exact h1
 rcases h1.2 with ⟨rfl,e⟩|⟨g',cap,cur,rfl,_⟩
 ·omega
 ·exact h _ _ w' hO ((Below.refl B w).grown h2 hB hown.row) h2.size
set_option maxRecDepth 100000 in
theorem jhex_any (s:ByteArray) (w:World) (hs:s.size≤40000) :
  Calls Tryz.prog 46 #[.string s] w fun e w'=>e=.returned (.string (mkB (hexL (bl s))))∧Below w.heap.size w w':=by
 have hw:IntKind.i64.wrap (2 * (s.size:Int))=2 * (s.size:Int):=by rw [IntKind.wrap_i64] <;> omega
 obtain ⟨i0,hi,hz0,hz1,hz2⟩:=info_parts info5
 go_enter Tryz.func46, Tryz.ntmps46
 go_wp2_with (refine wpList_make_own w rfl _ _ 32 rfl w.heap.size 5 i0 (.int .u8 0) 1 Tryz.underlying32 hi hz0 hz1 .i64 .i64 _ (2 * s.size) rfl rfl (by simp) (by rw [hz2];omega) (by unfold maxLen;omega) (Nat.le_refl _) ?_;refine Sto.out ?_)
 refine Sto.mk ?_
 intro w1 ho1 hg1
 have O1:Hid (Own w1 w.heap.size (.slice (some ⟨w.heap.size,0,none⟩) 0 (2 * s.size)) []):=ho1
 have B1:Hid (Below w.heap.size w w1):=(Below.refl _ w).grown hg1 (Nat.le_refl _) (fun k hk=>by cases hk)
 clear ho1 hg1 hi hz0 hz1 hz2
 go_wp2_with fail
 go_loopw [3,11] (fun b i W=>∃ (k:Nat) (a:Option Addr) (cp:Nat),i=.int .i64 k∧b=.slice a (2 * k) cp∧k≤s.size∧Hid (Own W w.heap.size (.slice a (2 * k) cp) (hexL ((bl s).take k))∧Below w.heap.size w W)) (fun _ i _=>s.size - (intOf i).toNat)
 case atStart=>exact ⟨0,_,_,rfl,rfl,Nat.zero_le _,hide ⟨by simpa [hexL] using O1.out,B1.out⟩⟩
 case round =>
  obtain ⟨k,a,cp,rfl,rfl,hk,HH⟩:=hrel
  obtain ⟨hO,hB⟩:=HH.out
  have OR:=hide hO
  have BR:=hide hB
  clear HH hO hB O1 B1
  have zr1:w.heap.size≤wr.heap.size:=BR.out.size
  by_cases hkl:k<s.size
  ·have hki:(k:Int)<(s.size:Int):=by omega
   have hst:=hide (show hexL ((bl s).take (k + 1))=hexL ((bl s).take k)++[hx (s[k].toNat / 16),hx (s[k].toNat % 16)] by
    rw [List.take_succ_eq_append_getElem (by rw [bl_length];exact hkl),hexL_snoc,bl_get s k hkl])
   have hlen:(hexL ((bl s).take k)).length=2 * k:=by rw [hexL_len,List.length_take,bl_length];omega
   obtain ⟨c,hc⟩:∃ c,s[k]=c:=⟨_,rfl⟩
   have hcl:c.toNat<256:=c.toNat_lt
   have hm:bits .and .u8 (c.toNat:Int) 15=((c.toNat % 16:Nat):Int):=by
    have:=u8_and_nat c.toNat 15 hcl (by omega)
    rw [nat_mask4] at this
    exact this
   have hd1:c.toNat / 16<16:=by omega
   have hd2:c.toNat % 16<16:=by omega
   have hds1:c.toNat / 16<(⟨#[48,49,50,51,52,53,54,55,56,57,97,98,99,100,101,102]⟩:ByteArray).size:=hd1
   have hds2:c.toNat % 16<(⟨#[48,49,50,51,52,53,54,55,56,57,97,98,99,100,101,102]⟩:ByteArray).size:=hd2
   have hg1:=hxd_get (c.toNat / 16) hd1 hds1
   have hg2:=hxd_get (c.toNat % 16) hd2 hds2
   rw [hc] at hst
   have hlen':=hide hlen
   clear hlen
   have hn:=hide (news_two wr (hx (c.toNat / 16)) (hx (c.toNat % 16)) 5)
   have hq1:((c.toNat:Int) / 16).toNat=c.toNat / 16:=by omega
   have hq2:(0:Int)≤(c.toNat:Int) / 16:=by omega
   have hq3:(c.toNat:Int) / 16<16:=by omega
   have hq4:((c.toNat:Int) % 16).toNat=c.toNat % 16:=by omega
   have hq5:(0:Int)≤(c.toNat:Int) % 16:=by omega
   have hq6:(c.toNat:Int) % 16<16:=by omega
   go_wp2_with fail
   go_region_law (refine step_bytes rfl (.tmp 14) (.tmp 25) rfl w.heap.size (.slice a (2 * k) cp) (hexL ((bl s).take k)) rfl (ownsRow_of OR.out fun g hg hlt=>(show Below wr.heap.size wr _ by repeat (first|exact Below.refl _ _|refine Below.drew ?_|refine below_al ?_)).block g hlt) ⟨wr.heap.size,0,none⟩ 2 2 [hx (c.toNat / 16),hx (c.toNat % 16)] rfl rfl hn.out (by rw [hlen'.out];omega) (by simp;omega) (by omega) ?_;intro av c' w' ho hb hz;have hO':=hide ho.out;have hB':Hid (Below w.heap.size w w'):=(BR.out.trans ((show Below wr.heap.size wr _ by repeat (first|exact Below.refl _ _|refine Below.drew ?_|refine below_al ?_)).mono zr1)).trans hb.out;clear ho hb)
   all_goals
    go_wp2_with fail
    refine ⟨⟨k + 1,av,c',by go_num,by rw [hlen'.out];rfl,hkl,hide ⟨?_,hB'.out⟩⟩,by simp [intOf];omega⟩
    rw [hst.out]
    have h1:=hO'.out
    rw [hlen'.out] at h1
    exact h1
  ·have hki:¬ ((k:Int)<(s.size:Int)):=by omega
   have hke:k=s.size:=by omega
   have hcv:=own_conv OR.out
   rw [List.take_of_length_le (by rw [bl_length];omega)] at hcv
   clear hkl hke
   go_wp2_with fail
   go_ret
   exact ⟨rfl,BR.out⟩
def escB (c:UInt8):List UInt8:=if c=34∨c=92 then [92,c] else if c.toNat<32 then [92,117,48,48,hx (c.toNat / 16),hx (c.toNat % 16)] else [c]
def escL (l:List UInt8):List UInt8:=l.flatMap escB
def quo (l:List UInt8):List UInt8:=34 :: (escL l++[34])
theorem bless (c:UInt8):Op.bytesLess [c] [32]=decide (c.toNat<32):=by
 simp [Op.bytesLess,UInt8.lt_iff_toNat_lt]
theorem WO.trans {i:Nat} {A T U:List UInt8} {W w1 w2:World} {e:Ending} (h1:FW i W w1) (hA:A.length + T.length≤65536) (h2:WO i (A++T) U w1 e w2):WO i A (T++U) W e w2:=by
 obtain ⟨hb,h⟩:=h2
 refine ⟨h1.trans hb,?_⟩
 rcases h with ⟨q1,q2,q3⟩|⟨q1,q2⟩
 ·exact Or.inl ⟨by simp at q1 ⊢;omega,q2,by simpa using q3⟩
 ·exact Or.inr ⟨by simp at q1 ⊢;omega,q2⟩
theorem byte_str (s:ByteArray) (k:Nat) (h:k<s.size):s.extract k (k + 1)=mkB [s[k]]:=by
 apply ByteArray.ext
 simp [mkB,ByteArray.data_extract]
 apply Array.ext
 ·simp;omega
 ·intro i h1 h2
  simp at h1 h2
  have:i=0:=by omega
  subst this
  simp
  rfl
theorem jcat_run (a b c:ByteArray) (w:World) (h:a++b=c) (hs:a.size + b.size≤100000):(Op.stringOp .add a b).run Tryz.prog w=.ok (.string c) w:=by
 rw [←h];exact run_string_add_sum w a b (by omega)
theorem WB.below {W W1:World} {i:Nat} {A:List UInt8} (h:WB W i A) (hb:Below W.heap.size W W1):WB W1 i A:=by
 have hlt:=h.lt
 obtain ⟨v,h1,h2⟩:=h
 exact ⟨v,(hb.block i hlt).trans h1,ownsRow_of h2 fun g _ hg=>hb.block g hg⟩
def fhd (d:Nat):Nat:=if d<10 then 48 + d else 87 + d
def flowL (b:Nat):Nat→List Nat
 | 0=>[]
 | k + 1=>fhd (b / 16 ^ k % 16) :: flowL b k
theorem flowL_len (b k:Nat):(flowL b k).length=k:=by
 induction k with
 | zero=>rfl
 | succ k ih=>simp [flowL,ih]
def fhexS (b:Nat):ByteArray:=strOfNums ((flowL b 16).map fun v:Nat=>(v:Int))
theorem fhexd_get (d:Nat) (h:d<16) (h':d<(⟨#[48,49,50,51,52,53,54,55,56,57,97,98,99,100,101,102]⟩:ByteArray).size):((⟨#[48,49,50,51,52,53,54,55,56,57,97,98,99,100,101,102]⟩:ByteArray)[d]).toNat=fhd d:=by
 have:d=0∨d=1∨d=2∨d=3∨d=4∨d=5∨d=6∨d=7∨d=8∨d=9∨d=10∨d=11∨d=12∨d=13∨d=14∨d=15:=by omega
 rcases this with rfl|rfl|rfl|rfl|rfl|rfl|rfl|rfl|rfl|rfl|rfl|rfl|rfl|rfl|rfl|rfl <;> rfl
theorem fhex_any (b:Nat) (w:World) (hb:b<18446744073709551616) :
  Calls Tryz.prog 44 #[.int .u64 b] w fun e w'=>e=.returned (.string (fhexS b))∧Below w.heap.size w w':=by
 go_enter Tryz.func44, Tryz.ntmps44
 go_wp2
 go_loopw [0,5] (fun x i wr=>∃ k:Nat,k≤16∧i=.int .i64 k∧x=.int .u64 (b / 16 ^ k:Nat)∧Hid (Arr wr w.heap.size 108 (List.replicate (16 - k) 0++flowL b k))∧Hid (Below w.heap.size w wr)) (fun x i _=>16 - (intOf i).toNat)
 case atStart =>
  refine ⟨0,by omega,rfl,by simp,?_,?_⟩
  ·exact arr_new _ _ 16 _ rfl
  ·exact below_al (Below.refl _ _)
 case round =>
  obtain ⟨k,hk,rfl,rfl,hAr,hB⟩:=hrel
  obtain ⟨y,hy⟩:∃ y,b / 16 ^ k=y:=⟨_,rfl⟩
  have hyb:y<18446744073709551616:=by rw [←hy];exact Nat.lt_of_le_of_lt (Nat.div_le_self _ _) hb
  have hy1:=hide (show b / 16 ^ (k + 1)=y / 16 by rw [Nat.pow_succ,←Nat.div_div_eq_div_mul,hy])
  rw [hy]
  by_cases hlt:k<16
  ·obtain ⟨d,hdd⟩:∃ d,y % 16=d:=⟨_,rfl⟩
   have hd16:d<16:=by omega
   have hm:bits .and .u64 (y:Int) 15=(d:Int):=by
    have:=u64_and_nat y 15 hyb (by omega)
    rw [nat_mask4,hdd] at this
    exact this
   have hds:d<(⟨#[48,49,50,51,52,53,54,55,56,57,97,98,99,100,101,102]⟩:ByteArray).size:=hd16
   have hg:=fhexd_get d hd16 hds
   have hcs:=hAr.out.cell (15 - k) (by simp;omega)
   have hfz:=hAr.out.frozen (15 - k)
   have hlow:=hide (show flowL b (k + 1)=fhd d :: flowL b k by simp only [flowL];rw [hy,hdd])
   have hy:=hide hy
   have hi1:(0:Int)≤15 - (k:Int):=by omega
   have hi2:(15:Int) - (k:Int)<16:=by omega
   have hi3:((15:Int) - (k:Int)).toNat=15 - k:=by omega
   have hset:Hid ((List.replicate (16 - k) 0++flowL b k).set (15 - k) (fhd d)=List.replicate (16 - (k + 1)) 0++flowL b (k + 1)):=by
    show _=_
    rw [hlow.out,show 16 - k=(16 - (k + 1)) + 1 by omega,List.replicate_succ',List.append_assoc,List.set_append_right _ _ (by simp <;> omega),List.length_replicate,show 15 - k - (16 - (k + 1))=0 by omega]
    rfl
   go_wp2
   refine ⟨⟨k + 1,by omega,by go_num,by rw [hy1.out];rfl,?_,?_⟩,by simp [intOf];omega⟩
   ·show Arr _ _ _ _
    rw [←hset.out]
    exact hAr.out.set (15 - k) (fhd d)
   ·exact hB.out.setCell (Nat.le_refl _) _
  ·have hke:k=16:=by omega
   subst hke
   have hAr':Hid (Arr wr w.heap.size 108 (flowL b 16)):=by
    have:=hAr.out
    show Arr _ _ _ _
    simpa using this
   have hl:=flowL_len b 16
   have hconv:(convert 32 9 (.slice (some ⟨w.heap.size,0,none⟩) 16 16)).run Tryz.prog wr=.ok (.string (fhexS b)) wr:=by
    refine run_convert_bytes_arg (P:=Tryz.prog) wr 32 5 Tryz.underlying32 Tryz.underlying5 w.heap.size 0 16 16 ((flowL b 16).map fun v:Nat=>(v:Int)) (by simp [hl]) (fun i hi=>?_) 9 Tryz.underlying9
    rw [Nat.zero_add,hAr'.out.cell i (by omega)]
    congr 2
    rw [List.getD_eq_getElem?_getD,List.getElem?_map,List.getElem?_eq_getElem (by omega)]
    rfl
   clear hl
   go_wp2
   go_ret
   exact ⟨rfl,hB.out⟩
def nmd (a b:List UInt8):List UInt8:=[123]++(quo a++([58]++(quo b++[125])))
def flgL (b:Bool):List UInt8:=bif b then [116,114,117,101] else [102,97,108,115,101]
def cmL (n:Nat):List UInt8:=bif n==0 then [] else [44]
def PBox (W:World) (i:Nat) (n:Bool) (wh fr:ByteArray) (pn:Bool) (pw:ByteArray):Prop:=W.heap[i]?=some (.cells #[.bool n,.string wh,.string fr,.bool pn,.string pw] 194 (0,0))
section
variable {W W1 : World} {i j o B b : Nat} {n n' pn pn' : Bool} {wh wh' fr fr' pw pw' : ByteArray} {v : Value}
theorem PBox.cells (h:PBox W i n wh fr pn pw) :
  W.cell? ⟨i,0,none⟩=some (.bool n)∧W.cell? ⟨i,1,none⟩=some (.string wh)∧W.cell? ⟨i,2,none⟩=some (.string fr)∧W.cell? ⟨i,3,none⟩=some (.bool pn)∧W.cell? ⟨i,4,none⟩=some (.string pw) ∧
  W.frozen? ⟨i,0,none⟩=false∧W.frozen? ⟨i,1,none⟩=false∧W.frozen? ⟨i,2,none⟩=false∧W.frozen? ⟨i,3,none⟩=false∧W.frozen? ⟨i,4,none⟩=false:=by
 unfold PBox at h
 simp [World.cell?,World.frozen?,h]
theorem PBox.lt (h:PBox W i n wh fr pn pw):i<W.heap.size:=by
 unfold PBox at h
 by_cases hlt:i<W.heap.size
 ·exact hlt
 ·have hn:W.heap[i]?=none:=by simp;omega
  rw [hn] at h;cases h
theorem PBox.below (h:PBox W i n wh fr pn pw) (hb:Below B W W1) (hi:i<B):PBox W1 i n wh fr pn pw:=by
 unfold PBox at h ⊢;rw [hb.block i hi];exact h
theorem PBox.only (h:PBox W i n wh fr pn pw) (hb:Only b W W1) (hi:i≠b):PBox W1 i n wh fr pn pw:=by
 unfold PBox at h ⊢;rw [hb.block i hi];exact h
theorem PBox.other (h:PBox W i n wh fr pn pw) (hij:i≠j):PBox (W.setCell ⟨j,o,none⟩ v) i n wh fr pn pw:=by
 unfold PBox at h ⊢;rw [Below.heap_setCell _ _ _ _ hij];exact h
theorem PBox.drew (h:PBox W i n wh fr pn pw):PBox W.drew i n wh fr pn pw:=h
theorem PBox.set0 (h:PBox W i n wh fr pn pw):PBox (W.setCell ⟨i,0,none⟩ (.bool n')) i n' wh fr pn pw:=by
 unfold PBox at h ⊢
 simp only [World.setCell,Array.getElem?_modify,if_true,h,Option.map_some]
 simp
theorem PBox.set1 (h:PBox W i n wh fr pn pw):PBox (W.setCell ⟨i,1,none⟩ (.string wh')) i n wh' fr pn pw:=by
 unfold PBox at h ⊢
 simp only [World.setCell,Array.getElem?_modify,if_true,h,Option.map_some]
 simp
theorem PBox.set2 (h:PBox W i n wh fr pn pw):PBox (W.setCell ⟨i,2,none⟩ (.string fr')) i n wh fr' pn pw:=by
 unfold PBox at h ⊢
 simp only [World.setCell,Array.getElem?_modify,if_true,h,Option.map_some]
 simp
theorem PBox.alloc (h:PBox W i n wh fr pn pw) (o:Obj):PBox (W.alloc o) i n wh fr pn pw:=by
 have hl:=h.lt
 unfold PBox at h ⊢
 rw [←h]
 exact Below.heap_alloc W o i hl
end
theorem pbox_new (w:World) (n:Bool) (wh fr:ByteArray) (pn:Bool) (pw:ByteArray):PBox (w.alloc (.cells #[.bool n,.string wh,.string fr,.bool pn,.string pw] 194)) w.heap.size n wh fr pn pw:=by
 unfold PBox
 show (w.heap.push _)[w.heap.size]?=_
 simp
structure Two5 (w W:World) (n:Bool) (wh fr:ByteArray) (pn:Bool) (pw:ByteArray) (n':Bool) (wh' fr':ByteArray) (pn':Bool) (pw':ByteArray):Prop where
 below:Below w.heap.size w W
 b0:PBox W w.heap.size n wh fr pn pw
 b1:PBox W (w.heap.size + 1) n' wh' fr' pn' pw'
section
variable {w W W1 : World} {n n' pn pn' : Bool} {wh wh' fr fr' pw pw' : ByteArray}
theorem Two5.then (h:Two5 w W n wh fr pn pw n' wh' fr' pn' pw') (hb:Below W.heap.size W W1):Two5 w W1 n wh fr pn pw n' wh' fr' pn' pw' :=
 ⟨below_then h.below hb,h.b0.below hb h.b0.lt,h.b1.below hb h.b1.lt⟩
theorem Two5.drew (h:Two5 w W n wh fr pn pw n' wh' fr' pn' pw'):Two5 w W.drew n wh fr pn pw n' wh' fr' pn' pw':=⟨h.below.drew,h.b0,h.b1⟩
end
theorem two5_new (w:World) (n:Bool) (wh fr:ByteArray) (pn:Bool) (pw:ByteArray) (n':Bool) (wh' fr':ByteArray) (pn':Bool) (pw':ByteArray) :
  Two5 w ((w.alloc (.cells #[.bool n,.string wh,.string fr,.bool pn,.string pw] 194)).alloc (.cells #[.bool n',.string wh',.string fr',.bool pn',.string pw'] 194)) n wh fr pn pw n' wh' fr' pn' pw':=by
 refine ⟨below_al (below_al (Below.refl _ _)),(pbox_new w n wh fr pn pw).alloc _,?_⟩
 have:=pbox_new (w.alloc (.cells #[.bool n,.string wh,.string fr,.bool pn,.string pw] 194)) n' wh' fr' pn' pw'
 simpa using this
theorem below_set {w W:World} {i o:Nat} {v:Value} (h:Below w.heap.size w W) (hi:w.heap.size≤i):Below w.heap.size w (W.setCell ⟨i,o,none⟩ v):=h.setCell hi v
def spPn (l:List UInt8):Bool:=if hdB 43 l then false else hdB 45 l
def spL (l:List UInt8):List UInt8:=if hdB 43 l then tlB 43 l else tlB 45 l
def spOk (l:List UInt8):Bool:=!(spL l).isEmpty && allD (spL l)
theorem tlB_no {c:UInt8} {l:List UInt8} (h:hdB c l=false):tlB c l=l:=by unfold tlB;rw [h];rfl
def partsE (ok:Bool) (n:Bool) (wh fr:ByteArray) (pn:Bool) (pw:ByteArray):Ending :=
 if ok then .returned (.tuple #[.agg #[.bool n,.string wh,.string fr,.bool pn,.string pw],.bool true]) else .returned (.tuple #[.agg #[.bool false,.string ⟨#[]⟩,.string ⟨#[]⟩,.bool false,.string ⟨#[]⟩],.bool false])
theorem splitPower_any (n:Bool) (wh fr pw:ByteArray) (s:ByteArray) (w:World) (hs:s.size≤100000) (ok:Bool) (hok:spOk (bl s)=ok) :
  Calls Tryz.prog 191 #[.agg #[.bool n,.string wh,.string fr,.bool false,.string pw],.string s] w fun e w' =>
   e=partsE ok n wh fr (spPn (bl s)) (mkB (spL (bl s)))∧Below w.heap.size w w':=by
 have ml:maxLen=2 ^ 63 - 1:=rfl
 have HT:=hide (two5_new w n wh fr false pw false ⟨#[]⟩ ⟨#[]⟩ false ⟨#[]⟩)
 cases hp:hdB 43 (bl s)
 ·have hL:spL (bl s)=tlB 45 (bl s):=by unfold spL;rw [hp];rfl
  have hP:spPn (bl s)=hdB 45 (bl s):=by unfold spPn;rw [hp];rfl
  have hok':Hid ((!(tlB 45 (bl s)).isEmpty && allD (tlB 45 (bl s)))=ok):=by rw [←hok,spOk,hL];exact rfl
  rw [hL,hP]
  have hlen:=tlB_length 45 (bl s)
  rw [bl_length] at hlen
  have hsz:=mkB_size (tlB 45 (bl s))
  have hnil:=mkB_nil (tlB 45 (bl s))
  have t43:=hide (tlB_no hp)
  clear hok hL hP
  obtain ⟨l,hl⟩:∃ l,tlB 45 (bl s)=l:=⟨_,rfl⟩
  rw [hl] at hok' hlen hsz hnil ⊢
  have hl:=hide hl
  cases hem:l.isEmpty
  ·rw [hem] at hnil
   cases had:allD l
   ·have hf:ok=false:=by rw [←hok'.out,hem,had];rfl
    subst hf
    clear hok'
    go_enter Tryz.func191, Tryz.ntmps191
    go_wp2_with fail
    refine (cutByte_any s 43 _ _ rfl hs).mono ?_
    rw [hp,t43.out,mkB_bl]
    rintro e w1 ⟨rfl,hb1⟩
    have H1:=hide (HT.out.then hb1)
    clear HT hb1
    obtain ⟨c0,c1,c2,c3,c4,f0,f1,f2,f3,f4⟩:=H1.out.b0.cells
    obtain ⟨d0,d1,d2,d3,d4,g0,g1,g2,g3,g4⟩:=H1.out.b1.cells
    go_wp2_with fail
    refine (cutByte_any s 45 _ _ rfl hs).mono ?_
    rw [hl.out]
    rintro e w2 ⟨rfl,hb2⟩
    have H2:=hide (H1.out.then hb2)
    clear c0 c1 c2 c3 c4 f0 f1 f2 f3 f4 d0 d1 d2 d3 d4 g0 g1 g2 g3 g4 H1 hb2
    obtain ⟨c0,c1,c2,c3,c4,f0,f1,f2,f3,f4⟩:=H2.out.b0.cells
    obtain ⟨d0,d1,d2,d3,d4,g0,g1,g2,g3,g4⟩:=H2.out.b1.cells
    have hadb:=hide had
    go_wp2_with (go_at_call 123;refine (areDigits_any _ _ (by omega)).mono ?_;rw [bl_mkB,hadb.out];rintro e w3 ⟨rfl,rfl⟩)
    refine bodyPost_ret (v:=.tuple #[.agg #[.bool false,.string ⟨#[]⟩,.string ⟨#[]⟩,.bool false,.string ⟨#[]⟩],.bool false]) (by simp [results,Tryz.results191,go_sem,d0,d1,d2,d3,d4]) rfl ⟨rfl,?_⟩
    iterate 6 refine below_set ?_ (by omega)
    exact H2.out.below
   ·have hf:ok=true:=by rw [←hok'.out,hem,had];rfl
    subst hf
    clear hok'
    go_enter Tryz.func191, Tryz.ntmps191
    go_wp2_with fail
    refine (cutByte_any s 43 _ _ rfl hs).mono ?_
    rw [hp,t43.out,mkB_bl]
    rintro e w1 ⟨rfl,hb1⟩
    have H1:=hide (HT.out.then hb1)
    clear HT hb1
    obtain ⟨c0,c1,c2,c3,c4,f0,f1,f2,f3,f4⟩:=H1.out.b0.cells
    obtain ⟨d0,d1,d2,d3,d4,g0,g1,g2,g3,g4⟩:=H1.out.b1.cells
    go_wp2_with fail
    refine (cutByte_any s 45 _ _ rfl hs).mono ?_
    rw [hl.out]
    rintro e w2 ⟨rfl,hb2⟩
    have H2:=hide (H1.out.then hb2)
    clear c0 c1 c2 c3 c4 f0 f1 f2 f3 f4 d0 d1 d2 d3 d4 g0 g1 g2 g3 g4 H1 hb2
    obtain ⟨c0,c1,c2,c3,c4,f0,f1,f2,f3,f4⟩:=H2.out.b0.cells
    obtain ⟨d0,d1,d2,d3,d4,g0,g1,g2,g3,g4⟩:=H2.out.b1.cells
    have hadb:=hide had
    go_wp2_with (go_at_call 123;refine (areDigits_any _ _ (by omega)).mono ?_;rw [bl_mkB,hadb.out];rintro e w3 ⟨rfl,rfl⟩)
    refine bodyPost_ret (v:=.tuple #[.agg #[.bool n,.string wh,.string fr,.bool (hdB 45 (bl s)),.string (mkB l)],.bool true]) (by simp [results,Tryz.results191,go_sem,d0,d1,d2,d3,d4]) rfl ⟨rfl,?_⟩
    iterate 7 refine below_set ?_ (by omega)
    exact H2.out.below
  ·rw [hem] at hnil
   have hf:ok=false:=by rw [←hok'.out,hem];rfl
   subst hf
   clear hok'
   go_enter Tryz.func191, Tryz.ntmps191
   go_wp2_with fail
   refine (cutByte_any s 43 _ _ rfl hs).mono ?_
   rw [hp,t43.out,mkB_bl]
   rintro e w1 ⟨rfl,hb1⟩
   have H1:=hide (HT.out.then hb1)
   clear HT hb1
   obtain ⟨c0,c1,c2,c3,c4,f0,f1,f2,f3,f4⟩:=H1.out.b0.cells
   obtain ⟨d0,d1,d2,d3,d4,g0,g1,g2,g3,g4⟩:=H1.out.b1.cells
   go_wp2_with fail
   refine (cutByte_any s 45 _ _ rfl hs).mono ?_
   rw [hl.out]
   rintro e w2 ⟨rfl,hb2⟩
   have H2:=hide (H1.out.then hb2)
   clear c0 c1 c2 c3 c4 f0 f1 f2 f3 f4 d0 d1 d2 d3 d4 g0 g1 g2 g3 g4 H1 hb2
   obtain ⟨c0,c1,c2,c3,c4,f0,f1,f2,f3,f4⟩:=H2.out.b0.cells
   obtain ⟨d0,d1,d2,d3,d4,g0,g1,g2,g3,g4⟩:=H2.out.b1.cells
   go_wp2
   refine bodyPost_ret (v:=.tuple #[.agg #[.bool false,.string ⟨#[]⟩,.string ⟨#[]⟩,.bool false,.string ⟨#[]⟩],.bool false]) (by simp [results,Tryz.results191,go_sem,d0,d1,d2,d3,d4]) rfl ⟨rfl,?_⟩
   iterate 6 refine below_set ?_ (by omega)
   exact H2.out.below
 ·have hL:spL (bl s)=tlB 43 (bl s):=by unfold spL;rw [hp];rfl
  have hP:spPn (bl s)=false:=by unfold spPn;rw [hp];rfl
  have hok':Hid ((!(tlB 43 (bl s)).isEmpty && allD (tlB 43 (bl s)))=ok):=by rw [←hok,spOk,hL];exact rfl
  rw [hL,hP]
  have hlen:=tlB_length 43 (bl s)
  rw [bl_length] at hlen
  have hsz:=mkB_size (tlB 43 (bl s))
  have hnil:=mkB_nil (tlB 43 (bl s))
  clear hok hL hP
  obtain ⟨l,hl⟩:∃ l,tlB 43 (bl s)=l:=⟨_,rfl⟩
  rw [hl] at hok' hlen hsz hnil ⊢
  have hl:=hide hl
  cases hem:l.isEmpty
  ·rw [hem] at hnil
   cases had:allD l
   ·have hf:ok=false:=by rw [←hok'.out,hem,had];rfl
    subst hf
    clear hok'
    go_enter Tryz.func191, Tryz.ntmps191
    go_wp2_with fail
    refine (cutByte_any s 43 _ _ rfl hs).mono ?_
    rw [hp,hl.out]
    rintro e w1 ⟨rfl,hb1⟩
    have H1:=hide (HT.out.then hb1)
    clear HT hb1
    obtain ⟨c0,c1,c2,c3,c4,f0,f1,f2,f3,f4⟩:=H1.out.b0.cells
    obtain ⟨d0,d1,d2,d3,d4,g0,g1,g2,g3,g4⟩:=H1.out.b1.cells
    have hadb:=hide had
    go_wp2_with (go_at_call 123;refine (areDigits_any _ _ (by omega)).mono ?_;rw [bl_mkB,hadb.out];rintro e w3 ⟨rfl,rfl⟩)
    refine bodyPost_ret (v:=.tuple #[.agg #[.bool false,.string ⟨#[]⟩,.string ⟨#[]⟩,.bool false,.string ⟨#[]⟩],.bool false]) (by simp [results,Tryz.results191,go_sem,d0,d1,d2,d3,d4]) rfl ⟨rfl,?_⟩
    iterate 5 refine below_set ?_ (by omega)
    exact H1.out.below
   ·have hf:ok=true:=by rw [←hok'.out,hem,had];rfl
    subst hf
    clear hok'
    go_enter Tryz.func191, Tryz.ntmps191
    go_wp2_with fail
    refine (cutByte_any s 43 _ _ rfl hs).mono ?_
    rw [hp,hl.out]
    rintro e w1 ⟨rfl,hb1⟩
    have H1:=hide (HT.out.then hb1)
    clear HT hb1
    obtain ⟨c0,c1,c2,c3,c4,f0,f1,f2,f3,f4⟩:=H1.out.b0.cells
    obtain ⟨d0,d1,d2,d3,d4,g0,g1,g2,g3,g4⟩:=H1.out.b1.cells
    have hadb:=hide had
    go_wp2_with (go_at_call 123;refine (areDigits_any _ _ (by omega)).mono ?_;rw [bl_mkB,hadb.out];rintro e w3 ⟨rfl,rfl⟩)
    refine bodyPost_ret (v:=.tuple #[.agg #[.bool n,.string wh,.string fr,.bool false,.string (mkB l)],.bool true]) (by simp [results,Tryz.results191,go_sem,d0,d1,d2,d3,d4]) rfl ⟨rfl,?_⟩
    iterate 6 refine below_set ?_ (by omega)
    exact H1.out.below
  ·rw [hem] at hnil
   have hf:ok=false:=by rw [←hok'.out,hem];rfl
   subst hf
   clear hok'
   go_enter Tryz.func191, Tryz.ntmps191
   go_wp2_with fail
   refine (cutByte_any s 43 _ _ rfl hs).mono ?_
   rw [hp,hl.out]
   rintro e w1 ⟨rfl,hb1⟩
   have H1:=hide (HT.out.then hb1)
   clear HT hb1
   obtain ⟨c0,c1,c2,c3,c4,f0,f1,f2,f3,f4⟩:=H1.out.b0.cells
   obtain ⟨d0,d1,d2,d3,d4,g0,g1,g2,g3,g4⟩:=H1.out.b1.cells
   go_wp2
   refine bodyPost_ret (v:=.tuple #[.agg #[.bool false,.string ⟨#[]⟩,.string ⟨#[]⟩,.bool false,.string ⟨#[]⟩],.bool false]) (by simp [results,Tryz.results191,go_sem,d0,d1,d2,d3,d4]) rfl ⟨rfl,?_⟩
   iterate 5 refine below_set ?_ (by omega)
   exact H1.out.below
end Go.Proofs.YthodiandebahdaaGreatDoor
