import Derived.Test.YtcnfchblfcfimaaGreatDoorUZh13
import Derived.Laws.BytesArg
import Derived.Laws.IdiomStrings
import Derived.Lib.RuneCount
import Derived.Lib.OthersKept
import Derived.Shelf.Unicode.DecodeAny
import Derived.BigQuiet
set_option linter.all false
set_option maxHeartbeats 4000000
set_option maxRecDepth 100000
namespace Go.Proofs.YtcnfchblfcfimaaGreatDoor.Ut
open Proofs.Tryz RowKit
def aj(l:List UInt8):ByteArray:=⟨l.toArray⟩
theorem ah(l:List UInt8):bl (aj l)=l:=by simp[bl,aj]
theorem ag(l:List UInt8):(aj l).size=l.length:=by rw[<-bl_length,ah]
theorem dh(s:ByteArray):aj (bl s)=s:=by cases s;simp[bl,aj]
def SL(w:World)(v:Value)(l:List UInt8):Prop :=
 (v=.slice none 0 0/\l=[])\/∃(a:Addr) (c:Nat),v=.slice (some a) l.length c/\l.length<=c/\c<=maxLen/\∀i (h:i<l.length),a.block<w.heap.size/\w.cell? (a.add i)=some (.int .u8 (l[i].toNat:Int))
theorem SL.conv{w:World}{v:Value}{l:List UInt8}(h:SL w v l):(convert 94 9 v).run prog w=.ok (.string (aj l)) w:=by
 rcases h with⟨rfl,rfl⟩|⟨a,c,rfl,_,_,hc⟩
 ·exact run_convert_bytes_nil w 94 5 Tryz.underlying94 Tryz.underlying5 0 0 9 Tryz.underlying9
 exact run_convert_bytes_back w 94 9 5 a c l Tryz.underlying94 Tryz.underlying5 Tryz.underlying9 (fun j hj=>(hc j hj).2)
def om(x:Nat):Nat:=if x<128 then 1 else if x<192 then 0 else if x<224 then 2 else if x<240 then 3 else if x<248 then 4 else 0
def qC:St->Nat
 | .i8=>0 | .i16=>1 | .i32=>2 | .i64=>3 | .u8=>2 | .u16=>2 | .u32=>3 | .u64=>3
theorem Dc{q:St}(h:qC q=0):q=.i8:=by cases q<;>simp[qC]at h ⊢
theorem rb{x:Nat}{q:St}(h:nx .i8 x=some q):om x=1+qC q:=by rcases yK h with⟨rfl,g⟩|⟨rfl,g⟩|⟨rfl,g⟩|⟨rfl,g⟩|⟨rfl,g⟩|⟨rfl,g⟩|⟨rfl,g⟩|⟨rfl,g⟩<;>(unfold om;simp only[qC];repeat (first|rfl|rw[if_pos (by omega)]|rw[if_neg (by omega)]))
theorem Dd{p q:St}{x:Nat}(hp:p≠.i8)(h:nx p x=some q):qC p=qC q+1:=by
 cases p
 ·exact absurd rfl hp
 all_goals (simp only[nx]at h;split at h<;>simp only[Option.some.injEq,reduceCtorEq]at h;subst h;rfl)
theorem rW:∀(t:List UInt8) (p q:St),run p t=some q->t.length<=qC p->qC q+t.length=qC p
 | [],p,q,h,_=>by rw[GN]at h;obtain rfl:=Option.some.inj h;simp
 |b::t,p,q,h,hl=>by
  have hp:p≠.i8:=by intro e;subst e;simp[qC]at hl
  cases hn:nx p b.toNat with
  |none=>rw[run_cons_no hn]at h;cases h
  |some q1=>
   rw[bD hn]at h;have h1:=Dd hp hn;simp only[List.length_cons]at hl ⊢;have:=rW t q1 q h (by omega);omega
theorem TO(p:St):run p (List.replicate (qC p) 128)=some .i8\/run p (List.replicate (qC p) 191)=some .i8:=by cases p<;>first|exact Or.inl (by decide)|exact Or.inr (by decide)
def cG(l:List UInt8)(n:Nat):Nat->Nat
 |0=>0
 |1=>(l.getD 0 0).toNat%2^(7-n)
 |k+2=>64*cG l n (k+1)+(l.getD (k+1) 0).toNat%64
def kr(l:List UInt8)(n:Nat):Nat:=if n=1 then (l.getD 0 0).toNat else cG l n n
theorem tG{a:UInt8}{l:List UInt8}{r n:Nat}(h:chr (a::l)=some (r,n)):n=om a.toNat/\r=kr (a::l) n:=by
 rcases ja h with⟨a',t,e,rfl,h1,rfl⟩|⟨a',b,t,e,rfl,h1,h2,hb,hr⟩|⟨a',b,c,t,e,rfl,h1,h2,hb,hc,g0,g1,hr⟩|⟨a',b,c,d,t,e,rfl,h1,h2,hb,hc,hd,g0,g1,hr⟩
 ·cases e
  exact⟨by unfold om;rw[if_pos h1],rfl⟩
 ·cases e
  refine⟨by unfold om;rw[if_neg (by omega),if_neg (by omega),if_pos (by omega)],?_⟩;simp[kr,cG];omega
 ·cases e
  refine⟨by unfold om;rw[if_neg (by omega),if_neg (by omega),if_neg (by omega),if_pos (by omega)],?_⟩;simp[kr,cG];omega
 cases e;refine⟨by unfold om;rw[if_neg (by omega),if_neg (by omega),if_neg (by omega),if_neg (by omega),if_pos (by omega)],?_⟩;simp[kr,cG];omega
theorem tF{l:List UInt8}{r n:Nat}(hv:Utf8.valid (r:Int)=true)(hb:bl (Utf8.encode (r:Int))=l.take n)(hn:n<=l.length):chr l=some (r,n):=by have h:=chr_encode r hv (l.drop n);rw[hb,List.take_append_drop,List.length_take,Nat.min_eq_left hn]at h;exact h
theorem FC{l:List UInt8}{r n:Nat}(h:chr l=some (r,n))(t:List UInt8):chr (l++t)=some (r,n):=by obtain⟨n1,n4,nl,_,hv,hb⟩:=chr_some h;have h2:=chr_encode r hv (l.drop n++t);rw[hb,<-List.append_assoc,List.take_append_drop,List.length_take,Nat.min_eq_left nl]at h2;exact h2
theorem sj{l:List UInt8}(hl:l≠[])(h:run .i8 l=some .i8):∃r n,chr l=some (r,n)/\run .i8 (l.drop n)=some .i8:=by
 cases hc:chr l with
 |none=>
  rcases chr_none hl hc with e|⟨p,hp,e,_⟩
  ·rw[h]at e;cases e
  rw[h]at e;exact absurd (Option.some.inj e).symm hp
 |some rn=>
  obtain⟨r,n⟩:=rn;refine⟨r,n,rfl,?_⟩;have:=(chr_some hc).2.2.2.1;rw[<-List.take_append_drop n l,run_app this]at h;exact h
theorem Bi{a:UInt8}{t:List UInt8}(hc:chr (a::t)=none)(hn:om a.toNat<=(a::t).length):run .i8 (a::t)=none:=by
 cases hx:nx .i8 a.toNat with
 |none=>exact run_cons_no hx
 |some q=>
  have h1:=rb hx;simp only[List.length_cons]at hn;rw[bD hx];cases hr:run q (t.take (qC q))with
  |none=>rw[<-List.take_append_drop (qC q) t];exact run_app_no hr
  |some p=>
   have h2:=rW _ _ _ hr (by rw[List.length_take];omega);rw[List.length_take,Nat.min_eq_left (by omega)]at h2;obtain rfl:=Dc (q:=p) (by omega);have h3:run .i8 (a::t.take (qC q))=some .i8:=by rw[bD hx];exact hr
   obtain⟨r,n,h4,_⟩:=sj (by simp) h3;have h5:=FC h4 (t.drop (qC q));rw[List.cons_append,List.take_append_drop,hc]at h5;cases h5
def ly(l:List UInt8)(n r:Nat):Bool:=Utf8.valid (r:Int)&&((bl (Utf8.encode (r:Int))).take l.length==l)&&decide ((Utf8.encode (r:Int)).size=n)
theorem qk{l:List UInt8}{n r:Nat}(h:Utf8.valid (r:Int)=true)(h2:(bl (Utf8.encode (r:Int))).take l.length=l):(run .i8 l).isSome=true:=by
 have h3:=chr_encode r h [];rw[List.append_nil]at h3;have h4:=(chr_some h3).2.2.2.1;rw[List.take_length]at h4;cases hr:run .i8 l with
 |some q=>rfl
 |none=>
  rw[<-List.take_append_drop l.length (bl (Utf8.encode (r:Int))),h2,run_app_no hr]at h4;cases h4
theorem CK{a:UInt8}{t:List UInt8}(hr:(run .i8 (a::t)).isSome=true)(hn:(a::t).length<om a.toNat):ly (a::t) (om a.toNat) (kr ((a::t)++List.replicate (om a.toNat-(a::t).length) 128) (om a.toNat))=true\/ly (a::t) (om a.toNat) (kr ((a::t)++List.replicate (om a.toNat-(a::t).length) 191) (om a.toNat))=true:=by
 cases hx:nx .i8 a.toNat with
 |none=>rw[run_cons_no hx]at hr;cases hr
 |some q=>
  have h1:=rb hx;rw[bD hx]at hr;simp only[List.length_cons]at hn ⊢;obtain⟨p,hp⟩:=Option.isSome_iff_exists.1 hr;have h2:=rW _ _ _ hp (by omega);have hm:om a.toNat-(t.length+1)=qC p:=by omega
  rw[hm];have key:∀x:UInt8,run p (List.replicate (qC p) x)=some .i8->ly (a::t) (om a.toNat) (kr ((a::t)++List.replicate (qC p) x) (om a.toNat))=true:=by
   intro x Vr;have h3:run .i8 ((a::t)++List.replicate (qC p) x)=some .i8:=by rw[List.cons_append,bD hx,run_app hp];exact Vr
   obtain⟨r,n,h4,_⟩:=sj (by simp) h3;rw[List.cons_append]at h4;obtain⟨e1,e2⟩:=tG h4;obtain⟨_,_,nl,_,hv,hb⟩:=chr_some h4;rw[List.cons_append,<-e1,<-e2];have aL:(a::(t++List.replicate (qC p) x)).length=n:=by simp;omega
   rw[<-aL,List.take_length]at hb;unfold ly;rw[hv,hb];have cC:(Utf8.encode (r:Int)).size=n:=by rw[<-bl_length,hb,aL]
   rw[cC];simp
  rcases TO p with h|h
  ·exact Or.inl (key 128 h)
  exact Or.inr (key 191 h)
theorem bQ(r:Int)(w:World)(h0:-9223372036854775808<=r)(h1:r<=9223372036854775807):Calls prog 216 #[.int .i64 r] w fun e w'=>e=.returned (.bool (Utf8.valid r))/\w'=w:=by
 have e:Utf8.valid r=decide ((0<=r/\r<=1114111)/\(r<55296\/57343<r)):=by simp only[Utf8.valid];rw[Bool.eq_iff_iff];simp only[Bool.or_eq_true,Bool.and_eq_true,decide_eq_true_eq];omega
 rw[e];go_enter func216,ntmps216;go_wp2
 all_goals
  go_ret;refine⟨congrArg Ending.returned (show Value.bool _=Value.bool _ from congrArg Value.bool ?_),rfl⟩
  first
   |rfl
   |(rw[Bool.eq_iff_iff];simp;omega)
theorem kR(x:Nat)(w:World)(hx:x<=255):Calls prog 214 #[.int .u8 x] w fun e w'=>e=.returned (.int .i64 (om x:Nat))/\w'=w:=by
 have key:∀m:Nat,om x=m->(m=if x<128 then 1 else if x<192 then 0 else if x<224 then 2 else if x<240 then 3 else if x<248 then 4 else 0)->Calls prog 214 #[.int .u8 x] w fun e w'=>e=.returned (.int .i64 (m:Nat))/\w'=w:=by
  intro m _ hm;by_cases c1:(x:Int)<128
  ·rw[if_pos (by omega)]at hm;subst hm
   go_enter func214,ntmps214;go_wp2;go_ret;exact⟨rfl,rfl⟩
  rw[if_neg (by omega)]at hm;by_cases c2:(x:Int)<192
  ·rw[if_pos (by omega)]at hm;subst hm
   have d2:¬((192:Int)<=x):=by omega
   have d3:¬((224:Int)<=x):=by omega
   have d4:¬((240:Int)<=x):=by omega
   go_enter func214,ntmps214;go_wp2;go_ret;exact⟨rfl,rfl⟩
  rw[if_neg (by omega)]at hm;by_cases c3:(x:Int)<224
  ·rw[if_pos (by omega)]at hm;subst hm
   have d2:(192:Int)<=x:=by omega
   go_enter func214,ntmps214;go_wp2;go_ret;exact⟨rfl,rfl⟩
  rw[if_neg (by omega)]at hm;by_cases c4:(x:Int)<240
  ·rw[if_pos (by omega)]at hm;subst hm
   have d2:(192:Int)<=x:=by omega
   have d3:(224:Int)<=x:=by omega
   go_enter func214,ntmps214;go_wp2;go_ret;exact⟨rfl,rfl⟩
  rw[if_neg (by omega)]at hm;have d2:(192:Int)<=x:=by omega
  have d3:(224:Int)<=x:=by omega
  have d4:(240:Int)<=x:=by omega
  by_cases c5:(x:Int)<248
  ·rw[if_pos (by omega)]at hm;subst hm
   go_enter func214,ntmps214;go_wp2;go_ret;exact⟨rfl,rfl⟩
  rw[if_neg (by omega)]at hm;subst hm;go_enter func214,ntmps214;go_wp2;go_ret;exact⟨rfl,rfl⟩
 exact key _ rfl (by unfold om;rfl)
theorem js(s:ByteArray)(k:Nat)(h:k<s.size):(bl s).getD k 0=s[k]:=by rw[List.getD,List.getElem?_eq_getElem (by rw[bl_length];exact h),bH s k h];rfl
theorem oX(l:List UInt8)(n:Nat):∀k,1<=k->k<=4->cG l n k<=200000000
 |0,h,_=>by omega
 |1,_,_=>by simp only[cG];have:=(l.getD 0 0).toNat_lt;have:=Nat.mod_le (l.getD 0 0).toNat (2^(7-n));omega
 |2,_,_=>by
  have h1:cG l n 1<=255:=by simp only[cG];have:=(l.getD 0 0).toNat_lt;have:=Nat.mod_le (l.getD 0 0).toNat (2^(7-n));omega
  have e:cG l n 2=64*cG l n 1+(l.getD 1 0).toNat%64:=rfl;omega
 |3,_,_=>by
  have h1:cG l n 1<=255:=by simp only[cG];have:=(l.getD 0 0).toNat_lt;have:=Nat.mod_le (l.getD 0 0).toNat (2^(7-n));omega
  have e:cG l n 2=64*cG l n 1+(l.getD 1 0).toNat%64:=rfl;have e3:cG l n 3=64*cG l n 2+(l.getD 2 0).toNat%64:=rfl;omega
 |4,_,_=>by
  have h1:cG l n 1<=255:=by simp only[cG];have:=(l.getD 0 0).toNat_lt;have:=Nat.mod_le (l.getD 0 0).toNat (2^(7-n));omega
  have e:cG l n 2=64*cG l n 1+(l.getD 1 0).toNat%64:=rfl;have e3:cG l n 3=64*cG l n 2+(l.getD 2 0).toNat%64:=rfl;have e4:cG l n 4=64*cG l n 3+(l.getD 3 0).toNat%64:=rfl;omega
 |k+5,_,h=>by omega
theorem Ao(s:ByteArray)(w:World)(h:2<=s.size)(hs:s.size<=281474976710656):Calls prog 215 #[.string s,.int .i64 2] w fun e w'=>e=.returned (.int .i64 (cG (bl s) 2 2:Nat))/\Below w.heap.size w w':=by
 have lZ:=js s 0 (by omega);have iW:=s[0].toNat_lt;have ai:cG (bl s) 2 1=s[0].toNat%32:=by simp only[cG];rw[lZ]
 have fY:(0:Int)<(s.size:Int):=by omega
 go_enter func215,ntmps215;go_wp2_with fail
 go_region_with fail
 all_goals
  go_wp2_with fail
  go_loopw [5,6] (fun r i w'=>∃k:Nat,r=.int .i64 (cG (bl s) 2 k:Nat)/\i=.int .i64 k/\1<=k/\k<=2/\w'=w.drew) (fun _ i _=>2-(intOf i).toNat)
  case atStart=>exact⟨1,by rw[ai];first|rfl|(congr 1;omega),rfl,Nat.le_refl _,by omega,rfl⟩
  case round=>
   obtain⟨k,rfl,rfl,nj,nU,rfl⟩:=hrel;have Qc:=oX (bl s) 2 k nj (by omega);by_cases ri:k<2
   ·have JB:=js s k (by omega)
    have Ub:=s[k].toNat_lt;have cb:cG (bl s) 2 (k+1)=64*cG (bl s) 2 k+s[k].toNat%64:=by
     obtain⟨j,rfl⟩:∃j,k=j+1:=⟨k-1,by omega⟩
     simp only[cG];rw[JB]
    have bF:(k:Int)<2:=by omega
    have Cc:(k:Int)<(s.size:Int):=by omega
    obtain⟨N,hN⟩:∃N,cG (bl s) 2 k=N:=⟨_,rfl⟩
    rw[hN]at cb Qc ⊢;have cb:=aa cb;clear hN JB lZ ai;go_wp2;refine⟨⟨k+1,?_,by go_num,by omega,by omega,by first|rfl|trivial⟩,by simp[intOf];omega⟩;rw[cb.out];show Value.int _ _=Value.int _ _
    first|rfl|(congr 1;omega)
   obtain rfl:k=2:=by omega
   go_wp2;go_ret;exact⟨rfl,af.drew⟩
theorem An(s:ByteArray)(w:World)(h:3<=s.size)(hs:s.size<=281474976710656):Calls prog 215 #[.string s,.int .i64 3] w fun e w'=>e=.returned (.int .i64 (cG (bl s) 3 3:Nat))/\Below w.heap.size w w':=by
 have lZ:=js s 0 (by omega);have iW:=s[0].toNat_lt;have ai:cG (bl s) 3 1=s[0].toNat%16:=by simp only[cG];rw[lZ]
 have fY:(0:Int)<(s.size:Int):=by omega
 go_enter func215,ntmps215;go_wp2_with fail
 go_region_with fail
 all_goals
  go_wp2_with fail
  go_loopw [5,6] (fun r i w'=>∃k:Nat,r=.int .i64 (cG (bl s) 3 k:Nat)/\i=.int .i64 k/\1<=k/\k<=3/\w'=w.drew) (fun _ i _=>3-(intOf i).toNat)
  case atStart=>exact⟨1,by rw[ai];first|rfl|(congr 1;omega),rfl,Nat.le_refl _,by omega,rfl⟩
  case round=>
   obtain⟨k,rfl,rfl,nj,nU,rfl⟩:=hrel;have Qc:=oX (bl s) 3 k nj (by omega);by_cases ri:k<3
   ·have JB:=js s k (by omega)
    have Ub:=s[k].toNat_lt;have cb:cG (bl s) 3 (k+1)=64*cG (bl s) 3 k+s[k].toNat%64:=by
     obtain⟨j,rfl⟩:∃j,k=j+1:=⟨k-1,by omega⟩
     simp only[cG];rw[JB]
    have bF:(k:Int)<3:=by omega
    have Cc:(k:Int)<(s.size:Int):=by omega
    obtain⟨N,hN⟩:∃N,cG (bl s) 3 k=N:=⟨_,rfl⟩
    rw[hN]at cb Qc ⊢;have cb:=aa cb;clear hN JB lZ ai;go_wp2;refine⟨⟨k+1,?_,by go_num,by omega,by omega,by first|rfl|trivial⟩,by simp[intOf];omega⟩;rw[cb.out];show Value.int _ _=Value.int _ _
    first|rfl|(congr 1;omega)
   obtain rfl:k=3:=by omega
   go_wp2;go_ret;exact⟨rfl,af.drew⟩
theorem Am(s:ByteArray)(w:World)(h:4<=s.size)(hs:s.size<=281474976710656):Calls prog 215 #[.string s,.int .i64 4] w fun e w'=>e=.returned (.int .i64 (cG (bl s) 4 4:Nat))/\Below w.heap.size w w':=by
 have lZ:=js s 0 (by omega);have iW:=s[0].toNat_lt;have ai:cG (bl s) 4 1=s[0].toNat%8:=by simp only[cG];rw[lZ]
 have fY:(0:Int)<(s.size:Int):=by omega
 go_enter func215,ntmps215;go_wp2_with fail
 go_region_with fail
 all_goals
  go_wp2_with fail
  go_loopw [5,6] (fun r i w'=>∃k:Nat,r=.int .i64 (cG (bl s) 4 k:Nat)/\i=.int .i64 k/\1<=k/\k<=4/\w'=w.drew) (fun _ i _=>4-(intOf i).toNat)
  case atStart=>exact⟨1,by rw[ai];first|rfl|(congr 1;omega),rfl,Nat.le_refl _,by omega,rfl⟩
  case round=>
   obtain⟨k,rfl,rfl,nj,nU,rfl⟩:=hrel;have Qc:=oX (bl s) 4 k nj (by omega);by_cases ri:k<4
   ·have JB:=js s k (by omega)
    have Ub:=s[k].toNat_lt;have cb:cG (bl s) 4 (k+1)=64*cG (bl s) 4 k+s[k].toNat%64:=by
     obtain⟨j,rfl⟩:∃j,k=j+1:=⟨k-1,by omega⟩
     simp only[cG];rw[JB]
    have bF:(k:Int)<4:=by omega
    have Cc:(k:Int)<(s.size:Int):=by omega
    obtain⟨N,hN⟩:∃N,cG (bl s) 4 k=N:=⟨_,rfl⟩
    rw[hN]at cb Qc ⊢;have cb:=aa cb;clear hN JB lZ ai;go_wp2;refine⟨⟨k+1,?_,by go_num,by omega,by omega,by first|rfl|trivial⟩,by simp[intOf];omega⟩;rw[cb.out];show Value.int _ _=Value.int _ _
    first|rfl|(congr 1;omega)
   obtain rfl:k=4:=by omega
   go_wp2;go_ret;exact⟨rfl,af.drew⟩
theorem kj(s:ByteArray)(n:Nat)(w:World)(h1:1<=n)(h4:n<=4)(h:n<=s.size)(hs:s.size<=281474976710656):Calls prog 215 #[.string s,.int .i64 n] w fun e w'=>e=.returned (.int .i64 (kr (bl s) n:Nat))/\Below w.heap.size w w':=by
 match n,h1,h4 with
 |1,_,_=>
  have lZ:=js s 0 (by omega);have e:kr (bl s) 1=s[0].toNat:=by unfold kr;rw[if_pos rfl,lZ]
  rw[e];have fY:(0:Int)<(s.size:Int):=by omega
  have iW:=s[0].toNat_lt;clear e lZ;go_enter func215,ntmps215;go_wp2;go_ret;exact⟨rfl,af⟩
 |2,_,_=>exact Ao s w h hs
 |3,_,_=>exact An s w h hs
 |4,_,_=>exact Am s w h hs
theorem sk(l:List UInt8)(n:Nat)(h1:1<=n)(h4:n<=4):kr l n<=200000000:=by
 unfold kr
 split
 ·have:=(l.getD 0 0).toNat_lt;omega
 exact oX l n n h1 h4
theorem SL.cells(w:World)(l:List UInt8)(T:TypeId)(cs:Array Value)(hc:cs=(l.map fun c:UInt8=>Value.int .u8 (c.toNat:Int)).toArray)(hl:l.length<=100):SL (w.alloc (.cells cs T)) (.slice (some ⟨w.heap.size,0,none⟩) l.length l.length) l:=by
 have ml:maxLen=2^63-1:=rfl;refine Or.inr ⟨⟨w.heap.size,0,none⟩,l.length,rfl,Nat.le_refl _,by omega,fun i hi=>⟨by simp,?_⟩⟩;have e1:(⟨w.heap.size,0,none⟩:Addr).add i=⟨w.heap.size,i,none⟩:=by unfold Addr.add;split<;>simp_all
 rw[e1,hc];simp[hi]
theorem zT{k:Nat}(h:k<256):((UInt8.ofNat k).toNat:Int)=k:=by rw[UInt8.toNat_ofNat'];omega
theorem FT{z:Int}(h:0<=z)(h2:z<256):IntKind.u8.wrap z=z:=by rw[IntKind.wrap_u8];omega
theorem jj(r:Nat)(w:World)(hv:Utf8.valid (r:Int)=true):Calls prog 217 #[.int .i64 r] w fun e w'=>e=.returned (.string (Utf8.encode (r:Int)))/\Below w.heap.size w w':=by
 have hr:=(cY r).1 hv;have PO:Utf8.encode (r:Int)=if r<128 then aj [UInt8.ofNat r] else if r<2048 then aj [UInt8.ofNat (192+r/64),UInt8.ofNat (128+r%64)] else if r<65536 then aj [UInt8.ofNat (224+r/4096),UInt8.ofNat (128+r/64%64),UInt8.ofNat (128+r%64)] else aj [UInt8.ofNat (240+r/262144),UInt8.ofNat (128+r/4096%64),UInt8.ofNat (128+r/64%64),UInt8.ofNat (128+r%64)]:=by simp only[Utf8.encode,hv,if_true,Int.toNat_natCast];rfl
 rw[PO];clear PO hv;by_cases c1:(r:Int)<128
 ·rw[if_pos (by omega)]
  have hw:IntKind.u8.wrap (r:Int)=r:=FT (by omega) (by omega);have ln:=(SL.cells w [UInt8.ofNat r] 5 #[.int .u8 (r:Int)] (by simp only[List.map_cons,List.map_nil];rw[zT (by omega)]) (by simp)).conv
  simp only[List.length_cons,List.length_nil]at ln;clear hr;go_enter func217,ntmps217;go_wp2;go_ret;exact⟨rfl,ab af⟩
 rw[if_neg (by omega)];by_cases c2:(r:Int)<2048
 ·rw[if_pos (by omega)]
  obtain⟨y0,Jt⟩:∃y0,192+r/64=y0:=⟨_,rfl⟩
  obtain⟨y1,fq⟩:∃y1,128+r%64=y1:=⟨_,rfl⟩
  have z0:(192:Int)+(r:Int)/64=(y0:Int):=by omega
  have z1:(128:Int)+(r:Int)%64=(y1:Int):=by omega
  rw[Jt,fq];have b0:y0<256:=by omega
  have b1:y1<256:=by omega
  have u0:IntKind.u8.wrap (y0:Int)=y0:=FT (by omega) (by omega);have u1:IntKind.u8.wrap (y1:Int)=y1:=FT (by omega) (by omega);have ln:=(SL.cells w [UInt8.ofNat y0,UInt8.ofNat y1] 5 #[.int .u8 (y0:Int),.int .u8 (y1:Int)] (by simp only[List.map_cons,List.map_nil];rw[zT b0,zT b1]) (by simp)).conv
  simp only[List.length_cons,List.length_nil]at ln;clear Jt fq;go_enter func217,ntmps217;go_wp2;go_ret;exact⟨rfl,ab af⟩
 rw[if_neg (by omega)];by_cases c3:(r:Int)<65536
 ·rw[if_pos (by omega)]
  obtain⟨y0,Jt⟩:∃y0,224+r/4096=y0:=⟨_,rfl⟩
  obtain⟨y1,fq⟩:∃y1,128+r/64%64=y1:=⟨_,rfl⟩
  obtain⟨y2,gx⟩:∃y2,128+r%64=y2:=⟨_,rfl⟩
  have z0:(224:Int)+(r:Int)/4096=(y0:Int):=by omega
  have z1:(128:Int)+(r:Int)/64%64=(y1:Int):=by omega
  have z2:(128:Int)+(r:Int)%64=(y2:Int):=by omega
  rw[Jt,fq,gx];have b0:y0<256:=by omega
  have b1:y1<256:=by omega
  have b2:y2<256:=by omega
  have u0:IntKind.u8.wrap (y0:Int)=y0:=FT (by omega) (by omega);have u1:IntKind.u8.wrap (y1:Int)=y1:=FT (by omega) (by omega);have u2:IntKind.u8.wrap (y2:Int)=y2:=FT (by omega) (by omega);have ln:=(SL.cells w [UInt8.ofNat y0,UInt8.ofNat y1,UInt8.ofNat y2] 5 #[.int .u8 (y0:Int),.int .u8 (y1:Int),.int .u8 (y2:Int)] (by simp only[List.map_cons,List.map_nil];rw[zT b0,zT b1,zT b2]) (by simp)).conv
  simp only[List.length_cons,List.length_nil]at ln;clear Jt fq gx;go_enter func217,ntmps217;go_wp2;go_ret;exact⟨rfl,ab af⟩
 rw[if_neg (by omega)];obtain⟨y0,Jt⟩:∃y0,240+r/262144=y0:=⟨_,rfl⟩
 obtain⟨y1,fq⟩:∃y1,128+r/4096%64=y1:=⟨_,rfl⟩
 obtain⟨y2,gx⟩:∃y2,128+r/64%64=y2:=⟨_,rfl⟩
 obtain⟨y3,iq⟩:∃y3,128+r%64=y3:=⟨_,rfl⟩
 have z0:(240:Int)+(r:Int)/262144=(y0:Int):=by omega
 have z1:(128:Int)+(r:Int)/4096%64=(y1:Int):=by omega
 have z2:(128:Int)+(r:Int)/64%64=(y2:Int):=by omega
 have z3:(128:Int)+(r:Int)%64=(y3:Int):=by omega
 rw[Jt,fq,gx,iq];have b0:y0<256:=by omega
 have b1:y1<256:=by omega
 have b2:y2<256:=by omega
 have b3:y3<256:=by omega
 have u0:IntKind.u8.wrap (y0:Int)=y0:=FT (by omega) (by omega);have u1:IntKind.u8.wrap (y1:Int)=y1:=FT (by omega) (by omega);have u2:IntKind.u8.wrap (y2:Int)=y2:=FT (by omega) (by omega);have u3:IntKind.u8.wrap (y3:Int)=y3:=FT (by omega) (by omega);have ln:=(SL.cells w [UInt8.ofNat y0,UInt8.ofNat y1,UInt8.ofNat y2,UInt8.ofNat y3] 5 #[.int .u8 (y0:Int),.int .u8 (y1:Int),.int .u8 (y2:Int),.int .u8 (y3:Int)] (by simp only[List.map_cons,List.map_nil];rw[zT b0,zT b1,zT b2,zT b3]) (by simp)).conv
 simp only[List.length_cons,List.length_nil]at ln;clear Jt fq gx iq;go_enter func217,ntmps217;go_wp2;go_ret;exact⟨rfl,ab af⟩
theorem vI(a b:List UInt8):aj a++aj b=aj (a++b):=by apply ByteArray.ext;simp[aj,ByteArray.data_append]
theorem vE(a b c:ByteArray)(w:World)(h:a++b=c)(hs:a.size+b.size<=1000000):(Op.stringOp .add a b).run prog w=.ok (.string c) w:=by rw[<-h];exact run_string_add_sum w a b (by omega)
theorem uv(l:List UInt8)(k:Nat)(x:UInt8):aj (l++List.replicate k x)++aj [x]=aj (l++List.replicate (k+1) x):=by rw[vI,List.append_assoc,List.replicate_succ']
def oq(n:Nat):Nat:=if n=2 then 128 else if n=3 then 2048 else 65536
theorem ky(n:Nat):Utf8.valid (oq n:Int)=true:=by
 unfold oq
 split
 ·decide
 split<;>decide
theorem rN(a b:ByteArray)(h:a.size≠b.size):(a.toList==b.toList)=false:=by
 rw[beq_eq_false_iff_ne];intro e;apply h;rw[Lib.toList_data,Lib.toList_data]at e;have:=congrArg List.length e
 simpa using this
theorem py(u s:ByteArray)(l:List UInt8)(hs:s=aj l):((u.extract 0 l.length).toList==s.toList)=((bl u).take l.length==l):=by
 rw[Lib.toList_data,Lib.toList_data];have e1:(u.extract 0 l.length).data.toList=(bl u).take l.length:=by have:=Lib.extract_eq u 0 l.length;rw[this];simp[bl]
 have e2:s.data.toList=l:=by rw[hs];simp[aj]
 rw[e1,e2]
def NS:Value->Nat | .string x=>x.size|_=>0
theorem xZ(s:ByteArray)(n:Nat)(w:World)(hm:1<=s.size)(hn:om s[0].toNat=n)(Wa:s.size<n)(h4:n<=4):Calls prog 218 #[.string s] w fun e w'=>e=.returned (.bool (run .i8 (bl s)).isSome)/\Below w.heap.size w w':=by
 obtain⟨l,hl⟩:∃l,bl s=l:=⟨_,rfl⟩
 have Jw:s=aj l:=by rw[<-hl,dh]
 have iu:l.length=s.size:=by rw[<-hl,bl_length]
 obtain⟨d,hd⟩:∃d,n=s.size+d:=⟨n-s.size,by omega⟩
 obtain⟨A,hA⟩:∃A,kr (l++List.replicate d 128) n=A:=⟨_,rfl⟩
 obtain⟨B,hB⟩:∃B,kr (l++List.replicate d 191) n=B:=⟨_,rfl⟩
 have dR:A<=200000000:=by rw[<-hA];exact sk _ n (by omega) h4
 have bO:B<=200000000:=by rw[<-hB];exact sk _ n (by omega) h4
 have tR:=aa (fun w=>kj (aj (l++List.replicate d 128)) n w (by omega) h4 (by rw[ag,List.length_append,List.length_replicate];omega) (by rw[ag,List.length_append,List.length_replicate];omega));have PM:=aa (fun w=>kj (aj (l++List.replicate d 191)) n w (by omega) h4 (by rw[ag,List.length_append,List.length_replicate];omega) (by rw[ag,List.length_append,List.length_replicate];omega));rw[ah,hA]at tR;rw[ah,hB]at PM;have hlong:=aa (fun w=>kR s[0].toNat w (by have:=s[0].toNat_lt;omega));rw[hn]at hlong;have fY:(0:Int)<(s.size:Int):=by omega
 have key:Hid ((run .i8 l).isSome=true->ly l n A=true\/ly l n B=true):=by
  show _->_;intro h;cases gq:l with
  |nil=>rw[gq]at iu;simp at iu;omega
  |cons a t=>
   have ha:a=s[0]:=by have:=bH s 0 (by omega);simp only[hl,gq,List.getElem_cons_zero]at this;exact this
   rw[gq]at h iu;have Uj:om a.toNat=n:=by rw[ha];exact hn
   have h5:=CK (a:=a) (t:=t) h (by rw[Uj];omega);rw[Uj,show n-(a::t).length=d by omega,<-gq,hA,hB]at h5;rw[gq]at h5;exact h5
 clear hA hB;rw[hl];have jN:=aa hd;have Ih:=aa iu;have Er:=aa Jw;have VY:(s.size:Int)<(n:Int):=by omega
 clear hd iu Jw hl hn;go_enter func218,ntmps218;go_wp2_with(go_at_call 214;refine(hlong.out _).mono ?_;rintro e w1 ⟨rfl,aT⟩;have bi:=aT.symm;clear aT;subst bi)
 go_loopw [4,5] (fun lo hi w'=>∃k:Nat,k<=d/\lo=.string (aj (l++List.replicate k 128))/\hi=.string (aj (l++List.replicate k 191))/\w'=w) (fun lo _ _=>10-NS lo)
 case atStart=>exact⟨0,Nat.zero_le _,by rw[List.replicate_zero,List.append_nil,<-Er.out],by rw[List.replicate_zero,List.append_nil,<-Er.out],rfl⟩
 case round=>
  obtain⟨k,hk,rfl,rfl,Em⟩:=hrel;have RU:=Em.symm;clear Em;subst RU;have hd:=jN.out;have iu:=Ih.out;have BV:(aj (l++List.replicate k 128)).size=s.size+k:=by rw[ag,List.length_append,List.length_replicate,iu]
  have Nj:(aj (l++List.replicate k 191)).size=s.size+k:=by rw[ag,List.length_append,List.length_replicate,iu]
  by_cases XF:k<d
  ·obtain⟨X,hX⟩:∃X,aj (l++List.replicate k 128)=X:=⟨_,rfl⟩
   obtain⟨Y,hY⟩:∃Y,aj (l++List.replicate k 191)=Y:=⟨_,rfl⟩
   obtain⟨X',Rg⟩:∃X',aj (l++List.replicate (k+1) 128)=X':=⟨_,rfl⟩
   obtain⟨Y',Tt⟩:∃Y',aj (l++List.replicate (k+1) 191)=Y':=⟨_,rfl⟩
   have r1:∀w,(Op.stringOp .add X ⟨#[128]⟩).run prog w=.ok (.string X') w:=fun w=>vE _ _ _ w (by rw[<-hX,<-Rg];exact uv l k 128) (by rw[<-hX,BV];show _+1<=_;omega);have r2:∀w,(Op.stringOp .add Y ⟨#[191]⟩).run prog w=.ok (.string Y') w:=fun w=>vE _ _ _ w (by rw[<-hY,<-Tt];exact uv l k 191) (by rw[<-hY,Nj];show _+1<=_;omega);have eK:X'.size=s.size+k+1:=by rw[<-Rg,ag,List.length_append,List.length_replicate,iu];omega
   rw[hX]at BV ⊢;rw[hY]at Nj ⊢;have WT:(X.size:Int)<(n:Int):=by omega
   have Qg:=aa Rg;have WS:=aa Tt;have ll:=aa eK;clear hX hY Rg Tt eK Nj hd iu;go_wp2;refine⟨⟨k+1,by omega,by rw[Qg.out],by rw[WS.out],by first|rfl|trivial⟩,?_⟩;have:=ll.out;simp[NS];omega
  obtain rfl:k=d:=by omega
  have WT:¬(((aj (l++List.replicate k 128)).size:Int)<(n:Int)):=by omega
  clear hd iu BV Nj;go_wp2_with(first|(go_at_call 215;first|(go_fit(tR.out _);rintro e w2 ⟨rfl,aq⟩;have aq:=aa aq)|(go_fit(PM.out _);rintro e w3 ⟨rfl,ar⟩;have ar:=aa (ac aq.out ar))))
  have T0:=aa ar.out;go_loopw [8] (fun i w'=>∃k:Nat,k<=2/\i=.int .i64 k/\Hid (∀j<k,ly l n (if j=0 then A else B)=false)/\Hid (Below w.heap.size w w')) (fun i _=>2-(intOf i).toNat)
  case atStart=>exact⟨0,by omega,rfl,fun j hj=>by omega,T0.out⟩
  case round=>
   obtain⟨k',No,rfl,iH,T⟩:=hrel;rcases(show k'=0\/k'=1\/k'=2 by omega)with rfl|rfl|rfl
   ·have oQ:=aa (fun w=>bQ (A:Int) w (by omega) (by omega))
    cases hv:Utf8.valid (A:Int)
    ·rw[hv]at oQ
     have jq:=aa (show ∀j<1,ly l n (if j=0 then A else B)=false from fun j hj=>by
      rcases Nat.lt_or_ge j 0 with q|q
      ·exact iH.out j q
      obtain rfl:j=0:=by omega
      show ly l n A=false;unfold ly;rw[hv];rfl)
     clear hv;go_wp2_with(first|(go_at_call 216;refine(oQ.out _).mono ?_;rintro e x1 ⟨rfl,dx⟩;have fG:=dx.symm;clear dx;subst fG)|(go_at_call 217;first|(refine(eY.out y2).mono ?_;rintro e y3 ⟨rfl,iq⟩;have T3:=aa (ac T2.out iq);clear iq)|(refine(eY.out y1).mono ?_;rintro e y2 ⟨rfl,gx⟩;have T2:=aa (ac T1.out gx);clear gx)|(refine(eY.out _).mono ?_;rintro e y1 ⟨rfl,fq⟩;have T1:=aa (ac (ab T.out) fq);clear fq)))
     refine⟨⟨1,by omega,by first|rfl|go_num,?_,ab T.out⟩,by simp[intOf]⟩;show ∀j<1,_;exact jq.out
    rw[hv]at oQ;have eY:=aa (fun w=>jj A w hv);have h3:=chr_encode A hv [];rw[List.append_nil]at h3;have Qq:=(chr_some h3).2.1;rw[bl_length]at Qq;obtain⟨u,hu⟩:∃u,Utf8.encode (A:Int)=u:=⟨_,rfl⟩
    have qs:ly l n A=(((bl u).take l.length==l)&&decide (u.size=n)):=by unfold ly;rw[hv,hu];rfl
    rw[hu]at eY Qq;have qs:=aa qs;clear h3 hu hv;have iu:=Ih.out;rcases Nat.lt_or_ge u.size s.size with xj|xj
    ·have jq:=aa (show ∀j<1,ly l n (if j=0 then A else B)=false from fun j hj=>by
      rcases Nat.lt_or_ge j 0 with q|q
      ·exact iH.out j q
      obtain rfl:j=0:=by omega
      show ly l n A=false;rw[qs.out,Bool.and_eq_false_iff];left;rw[beq_eq_false_iff_ne];intro e;have:=congrArg List.length e;rw[List.length_take,bl_length]at this;omega)
     have pS:¬((s.size:Int)<(u.size:Int)):=by omega
     have LX:min (s.size:Int) (u.size:Int)=u.size:=by omega
     have Ti:(u.toList==s.toList)=false:=rN _ _ (by omega);have QV:(u.size:Int)<=(u.size:Int):=by omega
     have pX:((u.extract 0 u.size).toList==s.toList)=false:=rN _ _ (by simp;omega);clear iu xj;go_wp2_with(first|(go_at_call 216;refine(oQ.out _).mono ?_;rintro e x1 ⟨rfl,dx⟩;have fG:=dx.symm;clear dx;subst fG)|(go_at_call 217;first|(refine(eY.out y2).mono ?_;rintro e y3 ⟨rfl,iq⟩;have T3:=aa (ac T2.out iq);clear iq)|(refine(eY.out y1).mono ?_;rintro e y2 ⟨rfl,gx⟩;have T2:=aa (ac T1.out gx);clear gx)|(refine(eY.out _).mono ?_;rintro e y1 ⟨rfl,fq⟩;have T1:=aa (ac (ab T.out) fq);clear fq)))
     refine⟨⟨1,by omega,by first|rfl|go_num,?_,T2.out⟩,by simp[intOf]⟩;show ∀j<1,_;exact jq.out
    obtain⟨bb,gd⟩:∃bb,((bl u).take l.length==l)=bb:=⟨_,rfl⟩
    have pX:((u.extract 0 s.size).toList==s.toList)=bb:=by rw[<-gd,<-iu];exact py u s l Er.out
    have LX:min (s.size:Int) (u.size:Int)=s.size:=by omega
    have QV:(s.size:Int)<=(u.size:Int):=by omega
    rw[gd]at qs;clear gd iu;cases bb
    ·have jq:=aa (show ∀j<1,ly l n (if j=0 then A else B)=false from fun j hj=>by
      rcases Nat.lt_or_ge j 0 with q|q
      ·exact iH.out j q
      obtain rfl:j=0:=by omega
      show ly l n A=false;rw[qs.out];rfl)
     rcases Nat.lt_or_ge s.size u.size with bm|hge
     ·have pS:(s.size:Int)<(u.size:Int):=by omega
      go_wp2_with(first|(go_at_call 216;refine(oQ.out _).mono ?_;rintro e x1 ⟨rfl,dx⟩;have fG:=dx.symm;clear dx;subst fG)|(go_at_call 217;first|(refine(eY.out y2).mono ?_;rintro e y3 ⟨rfl,iq⟩;have T3:=aa (ac T2.out iq);clear iq)|(refine(eY.out y1).mono ?_;rintro e y2 ⟨rfl,gx⟩;have T2:=aa (ac T1.out gx);clear gx)|(refine(eY.out _).mono ?_;rintro e y1 ⟨rfl,fq⟩;have T1:=aa (ac (ab T.out) fq);clear fq)))
      refine⟨⟨1,by omega,by first|rfl|go_num,?_,T2.out⟩,by simp[intOf]⟩;show ∀j<1,_;exact jq.out
     have En:u.size=s.size:=by omega
     have pS:¬((s.size:Int)<(u.size:Int)):=by omega
     have xl:=aa En;clear En hge xj;have Mf:((u.extract 0 u.size).toList==s.toList)=false:=by rw[xl.out];exact pX
     go_wp2_with(first|(go_at_call 216;refine(oQ.out _).mono ?_;rintro e x1 ⟨rfl,dx⟩;have fG:=dx.symm;clear dx;subst fG)|(go_at_call 217;first|(refine(eY.out y2).mono ?_;rintro e y3 ⟨rfl,iq⟩;have T3:=aa (ac T2.out iq);clear iq)|(refine(eY.out y1).mono ?_;rintro e y2 ⟨rfl,gx⟩;have T2:=aa (ac T1.out gx);clear gx)|(refine(eY.out _).mono ?_;rintro e y1 ⟨rfl,fq⟩;have T1:=aa (ac (ab T.out) fq);clear fq)))
     refine⟨⟨1,by omega,by first|rfl|go_num,?_,T2.out⟩,by simp[intOf]⟩;show ∀j<1,_;exact jq.out
    by_cases Lw:u.size=n
    ·have eA:=aa (show(run .i8 l).isSome=true from by
      have bB:ly l n A=true:=by rw[qs.out,decide_eq_true Lw];rfl
      unfold ly at bB;simp only[Bool.and_eq_true,beq_iff_eq]at bB;exact qk (n:=n) bB.1.1 bB.1.2)
     have pS:(s.size:Int)<(u.size:Int):=by omega
     subst Lw;clear xj;go_wp2_with(first|(go_at_call 216;refine(oQ.out _).mono ?_;rintro e x1 ⟨rfl,dx⟩;have fG:=dx.symm;clear dx;subst fG)|(go_at_call 217;first|(refine(eY.out y2).mono ?_;rintro e y3 ⟨rfl,iq⟩;have T3:=aa (ac T2.out iq);clear iq)|(refine(eY.out y1).mono ?_;rintro e y2 ⟨rfl,gx⟩;have T2:=aa (ac T1.out gx);clear gx)|(refine(eY.out _).mono ?_;rintro e y1 ⟨rfl,fq⟩;have T1:=aa (ac (ab T.out) fq);clear fq)))
     go_ret;refine⟨?_,T3.out⟩;rw[eA.out]
     first|rfl|simp
    have jq:=aa (show ∀j<1,ly l n (if j=0 then A else B)=false from fun j hj=>by
     rcases Nat.lt_or_ge j 0 with q|q
     ·exact iH.out j q
     obtain rfl:j=0:=by omega
     show ly l n A=false;rw[qs.out,decide_eq_false Lw];rfl)
    have Lv:¬((u.size:Int)=(n:Int)):=by omega
    have RY:((u.size:Int)==(n:Int))=false:=by rw[beq_eq_false_iff_ne];exact Lv
    rcases Nat.lt_or_ge s.size u.size with bm|hge
    ·have pS:(s.size:Int)<(u.size:Int):=by omega
     go_wp2_with(first|(go_at_call 216;refine(oQ.out _).mono ?_;rintro e x1 ⟨rfl,dx⟩;have fG:=dx.symm;clear dx;subst fG)|(go_at_call 217;first|(refine(eY.out y2).mono ?_;rintro e y3 ⟨rfl,iq⟩;have T3:=aa (ac T2.out iq);clear iq)|(refine(eY.out y1).mono ?_;rintro e y2 ⟨rfl,gx⟩;have T2:=aa (ac T1.out gx);clear gx)|(refine(eY.out _).mono ?_;rintro e y1 ⟨rfl,fq⟩;have T1:=aa (ac (ab T.out) fq);clear fq)))
     refine⟨⟨1,by omega,by first|rfl|go_num,?_,T3.out⟩,by simp[intOf]⟩;show ∀j<1,_;exact jq.out
    have En:u.size=s.size:=by omega
    have pS:¬((s.size:Int)<(u.size:Int)):=by omega
    have xl:=aa En;clear En hge xj;have Mf:((u.extract 0 u.size).toList==s.toList)=true:=by rw[xl.out];exact pX
    go_wp2_with(first|(go_at_call 216;refine(oQ.out _).mono ?_;rintro e x1 ⟨rfl,dx⟩;have fG:=dx.symm;clear dx;subst fG)|(go_at_call 217;first|(refine(eY.out y2).mono ?_;rintro e y3 ⟨rfl,iq⟩;have T3:=aa (ac T2.out iq);clear iq)|(refine(eY.out y1).mono ?_;rintro e y2 ⟨rfl,gx⟩;have T2:=aa (ac T1.out gx);clear gx)|(refine(eY.out _).mono ?_;rintro e y1 ⟨rfl,fq⟩;have T1:=aa (ac (ab T.out) fq);clear fq)))
    refine⟨⟨1,by omega,by first|rfl|go_num,?_,T3.out⟩,by simp[intOf]⟩;show ∀j<1,_;exact jq.out
   ·have oQ:=aa (fun w=>bQ (B:Int) w (by omega) (by omega))
    cases hv:Utf8.valid (B:Int)
    ·rw[hv]at oQ
     have jq:=aa (show ∀j<2,ly l n (if j=0 then A else B)=false from fun j hj=>by
      rcases Nat.lt_or_ge j 1 with q|q
      ·exact iH.out j q
      obtain rfl:j=1:=by omega
      show ly l n B=false;unfold ly;rw[hv];rfl)
     clear hv;go_wp2_with(first|(go_at_call 216;refine(oQ.out _).mono ?_;rintro e x1 ⟨rfl,dx⟩;have fG:=dx.symm;clear dx;subst fG)|(go_at_call 217;first|(refine(eY.out y2).mono ?_;rintro e y3 ⟨rfl,iq⟩;have T3:=aa (ac T2.out iq);clear iq)|(refine(eY.out y1).mono ?_;rintro e y2 ⟨rfl,gx⟩;have T2:=aa (ac T1.out gx);clear gx)|(refine(eY.out _).mono ?_;rintro e y1 ⟨rfl,fq⟩;have T1:=aa (ac (ab T.out) fq);clear fq)))
     refine⟨⟨2,by omega,by first|rfl|go_num,?_,ab T.out⟩,by simp[intOf]⟩;show ∀j<2,_;exact jq.out
    rw[hv]at oQ;have eY:=aa (fun w=>jj B w hv);have h3:=chr_encode B hv [];rw[List.append_nil]at h3;have Qq:=(chr_some h3).2.1;rw[bl_length]at Qq;obtain⟨u,hu⟩:∃u,Utf8.encode (B:Int)=u:=⟨_,rfl⟩
    have qs:ly l n B=(((bl u).take l.length==l)&&decide (u.size=n)):=by unfold ly;rw[hv,hu];rfl
    rw[hu]at eY Qq;have qs:=aa qs;clear h3 hu hv;have iu:=Ih.out;rcases Nat.lt_or_ge u.size s.size with xj|xj
    ·have jq:=aa (show ∀j<2,ly l n (if j=0 then A else B)=false from fun j hj=>by
      rcases Nat.lt_or_ge j 1 with q|q
      ·exact iH.out j q
      obtain rfl:j=1:=by omega
      show ly l n B=false;rw[qs.out,Bool.and_eq_false_iff];left;rw[beq_eq_false_iff_ne];intro e;have:=congrArg List.length e;rw[List.length_take,bl_length]at this;omega)
     have pS:¬((s.size:Int)<(u.size:Int)):=by omega
     have LX:min (s.size:Int) (u.size:Int)=u.size:=by omega
     have Ti:(u.toList==s.toList)=false:=rN _ _ (by omega);have QV:(u.size:Int)<=(u.size:Int):=by omega
     have pX:((u.extract 0 u.size).toList==s.toList)=false:=rN _ _ (by simp;omega);clear iu xj;go_wp2_with(first|(go_at_call 216;refine(oQ.out _).mono ?_;rintro e x1 ⟨rfl,dx⟩;have fG:=dx.symm;clear dx;subst fG)|(go_at_call 217;first|(refine(eY.out y2).mono ?_;rintro e y3 ⟨rfl,iq⟩;have T3:=aa (ac T2.out iq);clear iq)|(refine(eY.out y1).mono ?_;rintro e y2 ⟨rfl,gx⟩;have T2:=aa (ac T1.out gx);clear gx)|(refine(eY.out _).mono ?_;rintro e y1 ⟨rfl,fq⟩;have T1:=aa (ac (ab T.out) fq);clear fq)))
     refine⟨⟨2,by omega,by first|rfl|go_num,?_,T2.out⟩,by simp[intOf]⟩;show ∀j<2,_;exact jq.out
    obtain⟨bb,gd⟩:∃bb,((bl u).take l.length==l)=bb:=⟨_,rfl⟩
    have pX:((u.extract 0 s.size).toList==s.toList)=bb:=by rw[<-gd,<-iu];exact py u s l Er.out
    have LX:min (s.size:Int) (u.size:Int)=s.size:=by omega
    have QV:(s.size:Int)<=(u.size:Int):=by omega
    rw[gd]at qs;clear gd iu;cases bb
    ·have jq:=aa (show ∀j<2,ly l n (if j=0 then A else B)=false from fun j hj=>by
      rcases Nat.lt_or_ge j 1 with q|q
      ·exact iH.out j q
      obtain rfl:j=1:=by omega
      show ly l n B=false;rw[qs.out];rfl)
     rcases Nat.lt_or_ge s.size u.size with bm|hge
     ·have pS:(s.size:Int)<(u.size:Int):=by omega
      go_wp2_with(first|(go_at_call 216;refine(oQ.out _).mono ?_;rintro e x1 ⟨rfl,dx⟩;have fG:=dx.symm;clear dx;subst fG)|(go_at_call 217;first|(refine(eY.out y2).mono ?_;rintro e y3 ⟨rfl,iq⟩;have T3:=aa (ac T2.out iq);clear iq)|(refine(eY.out y1).mono ?_;rintro e y2 ⟨rfl,gx⟩;have T2:=aa (ac T1.out gx);clear gx)|(refine(eY.out _).mono ?_;rintro e y1 ⟨rfl,fq⟩;have T1:=aa (ac (ab T.out) fq);clear fq)))
      refine⟨⟨2,by omega,by first|rfl|go_num,?_,T2.out⟩,by simp[intOf]⟩;show ∀j<2,_;exact jq.out
     have En:u.size=s.size:=by omega
     have pS:¬((s.size:Int)<(u.size:Int)):=by omega
     have xl:=aa En;clear En hge xj;have Mf:((u.extract 0 u.size).toList==s.toList)=false:=by rw[xl.out];exact pX
     go_wp2_with(first|(go_at_call 216;refine(oQ.out _).mono ?_;rintro e x1 ⟨rfl,dx⟩;have fG:=dx.symm;clear dx;subst fG)|(go_at_call 217;first|(refine(eY.out y2).mono ?_;rintro e y3 ⟨rfl,iq⟩;have T3:=aa (ac T2.out iq);clear iq)|(refine(eY.out y1).mono ?_;rintro e y2 ⟨rfl,gx⟩;have T2:=aa (ac T1.out gx);clear gx)|(refine(eY.out _).mono ?_;rintro e y1 ⟨rfl,fq⟩;have T1:=aa (ac (ab T.out) fq);clear fq)))
     refine⟨⟨2,by omega,by first|rfl|go_num,?_,T2.out⟩,by simp[intOf]⟩;show ∀j<2,_;exact jq.out
    by_cases Lw:u.size=n
    ·have eA:=aa (show(run .i8 l).isSome=true from by
      have bB:ly l n B=true:=by rw[qs.out,decide_eq_true Lw];rfl
      unfold ly at bB;simp only[Bool.and_eq_true,beq_iff_eq]at bB;exact qk (n:=n) bB.1.1 bB.1.2)
     have pS:(s.size:Int)<(u.size:Int):=by omega
     subst Lw;clear xj;go_wp2_with(first|(go_at_call 216;refine(oQ.out _).mono ?_;rintro e x1 ⟨rfl,dx⟩;have fG:=dx.symm;clear dx;subst fG)|(go_at_call 217;first|(refine(eY.out y2).mono ?_;rintro e y3 ⟨rfl,iq⟩;have T3:=aa (ac T2.out iq);clear iq)|(refine(eY.out y1).mono ?_;rintro e y2 ⟨rfl,gx⟩;have T2:=aa (ac T1.out gx);clear gx)|(refine(eY.out _).mono ?_;rintro e y1 ⟨rfl,fq⟩;have T1:=aa (ac (ab T.out) fq);clear fq)))
     go_ret;refine⟨?_,T3.out⟩;rw[eA.out]
     first|rfl|simp
    have jq:=aa (show ∀j<2,ly l n (if j=0 then A else B)=false from fun j hj=>by
     rcases Nat.lt_or_ge j 1 with q|q
     ·exact iH.out j q
     obtain rfl:j=1:=by omega
     show ly l n B=false;rw[qs.out,decide_eq_false Lw];rfl)
    have Lv:¬((u.size:Int)=(n:Int)):=by omega
    have RY:((u.size:Int)==(n:Int))=false:=by rw[beq_eq_false_iff_ne];exact Lv
    rcases Nat.lt_or_ge s.size u.size with bm|hge
    ·have pS:(s.size:Int)<(u.size:Int):=by omega
     go_wp2_with(first|(go_at_call 216;refine(oQ.out _).mono ?_;rintro e x1 ⟨rfl,dx⟩;have fG:=dx.symm;clear dx;subst fG)|(go_at_call 217;first|(refine(eY.out y2).mono ?_;rintro e y3 ⟨rfl,iq⟩;have T3:=aa (ac T2.out iq);clear iq)|(refine(eY.out y1).mono ?_;rintro e y2 ⟨rfl,gx⟩;have T2:=aa (ac T1.out gx);clear gx)|(refine(eY.out _).mono ?_;rintro e y1 ⟨rfl,fq⟩;have T1:=aa (ac (ab T.out) fq);clear fq)))
     refine⟨⟨2,by omega,by first|rfl|go_num,?_,T3.out⟩,by simp[intOf]⟩;show ∀j<2,_;exact jq.out
    have En:u.size=s.size:=by omega
    have pS:¬((s.size:Int)<(u.size:Int)):=by omega
    have xl:=aa En;clear En hge xj;have Mf:((u.extract 0 u.size).toList==s.toList)=true:=by rw[xl.out];exact pX
    go_wp2_with(first|(go_at_call 216;refine(oQ.out _).mono ?_;rintro e x1 ⟨rfl,dx⟩;have fG:=dx.symm;clear dx;subst fG)|(go_at_call 217;first|(refine(eY.out y2).mono ?_;rintro e y3 ⟨rfl,iq⟩;have T3:=aa (ac T2.out iq);clear iq)|(refine(eY.out y1).mono ?_;rintro e y2 ⟨rfl,gx⟩;have T2:=aa (ac T1.out gx);clear gx)|(refine(eY.out _).mono ?_;rintro e y1 ⟨rfl,fq⟩;have T1:=aa (ac (ab T.out) fq);clear fq)))
    refine⟨⟨2,by omega,by first|rfl|go_num,?_,T3.out⟩,by simp[intOf]⟩;show ∀j<2,_;exact jq.out
   have hsome:=aa (show(run .i8 l).isSome=false from by
    cases hq:(run .i8 l).isSome
    ·rfl
    rcases key.out hq with h|h
    ·have:=iH.out 0 (by omega)
     simp only[if_true]at this;rw[h]at this;exact this
    have:=iH.out 1 (by omega);simp only[if_neg (show ¬(1=0)by omega)]at this;rw[h]at this;exact this)
   have eY:=aa (fun w=>jj (oq n) w (ky n));have h3:=chr_encode (oq n) (ky n) [];rw[List.append_nil]at h3;obtain⟨u,hu⟩:∃u,Utf8.encode (oq n:Int)=u:=⟨_,rfl⟩
   have xj:u.size=n:=by rw[<-hu];rcases(show n=2\/n=3\/n=4 by omega)with rfl|rfl|rfl<;>decide
   rw[hu]at eY h3;have pX:((u.extract 0 s.size).toList==s.toList)=false:=by rw[<-Ih.out,py u s l Er.out,beq_eq_false_iff_ne];intro e;have h7:=qk (n:=n) (ky n) (by rw[hu];exact e);rw[hsome.out]at h7;exact absurd h7 (by decide)
   have QV:(s.size:Int)<=(u.size:Int):=by omega
   have et:=aa dR;have jR:=aa bO;rcases(show n=2\/n=3\/n=4 by omega)with df|df|df
   ·have zo:oq n=128:=by rw[df];rfl
    rw[zo]at eY;clear hu h3 xj dR bO zo key tR PM iH;subst df;rw[show((128:Nat):Int)=128 from rfl]at eY;have c1:(decide ((A:Int)<=128)=true/\((A:Int)<=128)=True)\/(decide ((A:Int)<=128)=false/\((A:Int)<=128)=False):=by
     by_cases h:(A:Int)<=128
     ·exact .inl ⟨decide_eq_true h,eq_true h⟩
     exact .inr ⟨decide_eq_false h,eq_false h⟩
    have c2:(decide (128<=(B:Int))=true/\(128<=(B:Int))=True)\/(decide (128<=(B:Int))=false/\(128<=(B:Int))=False):=by
     by_cases h:128<=(B:Int)
     ·exact .inl ⟨decide_eq_true h,eq_true h⟩
     exact .inr ⟨decide_eq_false h,eq_false h⟩
    rcases c1 with⟨d1,e1⟩|⟨d1,e1⟩<;>rcases c2 with⟨d2,e2⟩|⟨d2,e2⟩
    ·go_wp2_with(go_at_call 217;refine(eY.out _).mono ?_;rintro e y1 ⟨rfl,fq⟩;have T1:=aa (ac (ab T.out) fq);clear fq)
     go_ret;refine⟨?_,T1.out⟩;rw[hsome.out]
     first|rfl|simp
    all_goals
     go_wp2;go_ret;refine⟨?_,ab T.out⟩;rw[hsome.out]
     first|rfl|simp
   ·have zo:oq n=2048:=by rw[df];rfl
    rw[zo]at eY;clear hu h3 xj dR bO zo key tR PM iH;subst df;rw[show((2048:Nat):Int)=2048 from rfl]at eY;have c1:(decide ((A:Int)<=2048)=true/\((A:Int)<=2048)=True)\/(decide ((A:Int)<=2048)=false/\((A:Int)<=2048)=False):=by
     by_cases h:(A:Int)<=2048
     ·exact .inl ⟨decide_eq_true h,eq_true h⟩
     exact .inr ⟨decide_eq_false h,eq_false h⟩
    have c2:(decide (2048<=(B:Int))=true/\(2048<=(B:Int))=True)\/(decide (2048<=(B:Int))=false/\(2048<=(B:Int))=False):=by
     by_cases h:2048<=(B:Int)
     ·exact .inl ⟨decide_eq_true h,eq_true h⟩
     exact .inr ⟨decide_eq_false h,eq_false h⟩
    rcases c1 with⟨d1,e1⟩|⟨d1,e1⟩<;>rcases c2 with⟨d2,e2⟩|⟨d2,e2⟩
    ·go_wp2_with(go_at_call 217;refine(eY.out _).mono ?_;rintro e y1 ⟨rfl,fq⟩;have T1:=aa (ac (ab T.out) fq);clear fq)
     go_ret;refine⟨?_,T1.out⟩;rw[hsome.out]
     first|rfl|simp
    all_goals
     go_wp2;go_ret;refine⟨?_,ab T.out⟩;rw[hsome.out]
     first|rfl|simp
   have zo:oq n=65536:=by rw[df];rfl
   rw[zo]at eY;clear hu h3 xj dR bO zo key tR PM iH;subst df;rw[show((65536:Nat):Int)=65536 from rfl]at eY;have c1:(decide ((A:Int)<=65536)=true/\((A:Int)<=65536)=True)\/(decide ((A:Int)<=65536)=false/\((A:Int)<=65536)=False):=by
    by_cases h:(A:Int)<=65536
    ·exact .inl ⟨decide_eq_true h,eq_true h⟩
    exact .inr ⟨decide_eq_false h,eq_false h⟩
   have c2:(decide (65536<=(B:Int))=true/\(65536<=(B:Int))=True)\/(decide (65536<=(B:Int))=false/\(65536<=(B:Int))=False):=by
    by_cases h:65536<=(B:Int)
    ·exact .inl ⟨decide_eq_true h,eq_true h⟩
    exact .inr ⟨decide_eq_false h,eq_false h⟩
   rcases c1 with⟨d1,e1⟩|⟨d1,e1⟩<;>rcases c2 with⟨d2,e2⟩|⟨d2,e2⟩
   ·go_wp2_with(go_at_call 217;refine(eY.out _).mono ?_;rintro e y1 ⟨rfl,fq⟩;have T1:=aa (ac (ab T.out) fq);clear fq)
    go_ret;refine⟨?_,T1.out⟩;rw[hsome.out]
    first|rfl|simp
   all_goals
    go_wp2;go_ret;refine⟨?_,ab T.out⟩;rw[hsome.out]
    first|rfl|simp
def Ja(l:List UInt8):Nat:=((chr l).getD (65533,1)).2
def cnt:Nat->List UInt8->Nat
 |0,_=>0
 |_+1,[]=>0
 |f+1,a::l=>1+cnt f ((a::l).drop (Ja (a::l)))
theorem yh(l:List UInt8):1<=Ja l:=by
 unfold Ja;cases h:chr l with
 |none=>simp
 |some rn=>obtain⟨r,n⟩:=rn;exact(chr_some h).1
theorem qj:∀(f:Nat) (l:List UInt8),l.length<=f->cnt f l=cnt l.length l
 |0,l,h=>by have:l=[]:=List.length_eq_zero_iff.1 (by omega);subst this;rfl
 |f+1,[],h=>rfl
 |f+1,a::l,h=>by
  have hw:=yh (a::l);have hd:((a::l).drop (Ja (a::l))).length<=l.length:=by rw[List.length_drop,List.length_cons];omega
  simp only[List.length_cons]at h;simp only[cnt,List.length_cons];rw[qj f _ (by omega),qj l.length _ hd]
def lL(l:List UInt8):Nat:=cnt l.length l
theorem Bv:lL []=0:=rfl
theorem xY{l:List UInt8}(h:l≠[]):lL l=1+lL (l.drop (Ja l)):=by
 cases l with
 |nil=>exact absurd rfl h
 |cons a l=>
  unfold lL;have hw:=yh (a::l);have hd:((a::l).drop (Ja (a::l))).length<=l.length:=by rw[List.length_drop,List.length_cons];omega
  simp only[List.length_cons,cnt];rw[qj l.length _ hd]
def fD(l:List UInt8):Nat×Nat×Nat:=match chr l with
 |some (r,n)=>(r,n,0)
 |none=>if (run .i8 l).isSome then (0,0,31) else (0,0,30)
def nW(l:List UInt8)(at':Int):Nat×Nat×Nat:=if 0<=at'/\at'<l.length then fD (l.drop at'.toNat) else (0,0,1)
theorem mh(s:ByteArray)(pos:Nat):bl (s.extract pos s.size)=(bl s).drop pos:=by have:=Lib.extract_eq s pos s.size;rw[this];show(((bl s).drop pos).take (s.size-pos))=_;exact List.take_of_length_le (by rw[List.length_drop,bl_length];omega)
theorem eF{B:Nat}{w W:World}(h:Below B w W)(n:Nat):Below B w (W.drewN n):=⟨h.os,h.tape,h.output,h.size,h.block⟩
theorem KU(x:Nat):om x<=4:=by
 unfold om
 repeat' split
 all_goals omega
theorem ui(u t:ByteArray)(n:Nat):(u.toList==(t.extract 0 n).toList)=(bl u==(bl t).take n):=by
 rw[Lib.toList_data,Lib.toList_data];have e1:(t.extract 0 n).data.toList=(bl t).take n:=by have:=Lib.extract_eq t 0 n;rw[this];simp[bl]
 rw[e1];rfl
theorem fv(t:ByteArray)(h:0<t.size):∃q,bl t=t[0]::q:=by have:=rt t 0 h;rw[List.drop_zero]at this;exact⟨_,this⟩
theorem ux(s:ByteArray)(at':Int)(w:World)(hs:s.size<=281474976710656):Calls prog 191 #[.string s,.int .i64 at'] w fun r w'=>r=.returned (.tuple #[.int .i64 (nW (bl s) at').1,.int .i64 (nW (bl s) at').2.1,.int .i64 (nW (bl s) at').2.2])/\Below w.heap.size w w':=by
 unfold nW;rw[bl_length];by_cases hr:0<=at'/\at'<(s.size:Int)
 ·rw[if_pos hr]
  obtain⟨pos,rfl⟩:=Int.eq_ofNat_of_zero_le hr.1;rw[Int.toNat_natCast];have hp:pos<s.size:=by omega
  obtain⟨t,ht⟩:∃t,s.extract pos s.size=t:=⟨_,rfl⟩
  have mu:bl t=(bl s).drop pos:=by rw[<-ht];exact mh s pos
  have lG:t.size=s.size-pos:=by rw[<-bl_length,mu,List.length_drop,bl_length]
  rw[<-mu];have hh:(0:Int)<=(pos:Int)/\¬((pos:Int)<0)/\¬((s.size:Int)<=(pos:Int)):=by omega
  obtain⟨g1,g2,g3⟩:=hh;have Ud:0<t.size:=by omega
  have Xw:t.size<=281474976710656:=by omega
  obtain⟨q,hq⟩:=fv t Ud;obtain⟨n,hn⟩:∃n,om t[0].toNat=n:=⟨_,rfl⟩
  have h4:n<=4:=by rw[<-hn];exact KU _
  have hlong:=aa (fun w=>kR t[0].toNat w (by have:=t[0].toNat_lt;omega));rw[hn]at hlong;have fY:(0:Int)<(t.size:Int):=by omega
  have hnone:t.size<n\/n=0->chr (bl t)=none:=by
   intro h;cases hc:chr (bl t)with
   |none=>rfl
   |some rn=>
    obtain⟨r,k⟩:=rn;obtain⟨n1,n4',nl,_⟩:=chr_some hc;rw[hq]at hc;have:=(tG hc).1;rw[bl_length]at nl;omega
  have hfull:chr (bl t)=none->n<=t.size->run .i8 (bl t)=none:=by intro h1 h2;have:=bl_length t;rw[hq]at h1 this ⊢;exact Bi h1 (by omega)
  clear mu hr;rcases Nat.eq_zero_or_pos n with lI|cm
  ·have hd:fD (bl t)=(0,0,30):=by
    unfold fD;rw[hnone (.inr lI),hfull (hnone (.inr lI)) (by omega)];rfl
   rw[hd];clear hd hnone hfull hq hn lG;subst lI;go_enter func191,ntmps191;go_wp2_with(go_at_call 214;refine(hlong.out _).mono ?_;rintro e w1 ⟨rfl,aT⟩;have bi:=aT.symm;clear aT;subst bi)
   go_ret3
   exact⟨rfl,af⟩
  rcases Nat.lt_or_ge t.size n with bm|hge
  ·have pZ:=hnone (.inl bm)
   have Tr:=aa (fun w=>xZ t n w Ud hn bm h4);obtain⟨o,ho⟩:∃o,(run .i8 (bl t)).isSome=o:=⟨_,rfl⟩
   have hd:fD (bl t)=if o then (0,0,31) else (0,0,30):=by unfold fD;rw[pZ,<-ho]
   rw[hd];rw[ho]at Tr;have i1:(0:Int)<(n:Int):=by omega
   have i2:¬((n:Int)<=(t.size:Int)):=by omega
   have i3:(t.size:Int)<(n:Int):=by omega
   clear hd hnone hfull hq hn lG pZ ho bm cm;cases o
   ·go_enter func191,ntmps191
    go_wp2_with(first|(go_at_call 214;refine(hlong.out _).mono ?_;rintro e w1 ⟨rfl,aT⟩;have bi:=aT.symm;clear aT;subst bi)|(go_at_call 218;refine(Tr.out _).mono ?_;rintro e w2 ⟨rfl,aq⟩))
    go_ret3
    exact⟨rfl,aq⟩
   go_enter func191,ntmps191;go_wp2_with(first|(go_at_call 214;refine(hlong.out _).mono ?_;rintro e w1 ⟨rfl,aT⟩;have bi:=aT.symm;clear aT;subst bi)|(go_at_call 218;refine(Tr.out _).mono ?_;rintro e w2 ⟨rfl,aq⟩))
   go_ret3
   exact⟨rfl,aq⟩
  have Ie:=aa (fun w=>kj t n w cm h4 hge (by omega));have qO:kr (bl t) n<=200000000:=sk _ n cm h4;have kZ:∀r k,chr (bl t)=some (r,k)->k=n/\r=kr (bl t) n:=by intro r k h;have h':=h;rw[hq]at h';obtain⟨e1,e2⟩:=tG h';rw[hn]at e1;subst e1;rw[<-hq]at e2;exact⟨rfl,e2⟩
  obtain⟨R,hR⟩:∃R,kr (bl t) n=R:=⟨_,rfl⟩
  rw[hR]at Ie qO kZ;have oQ:=aa (fun w=>bQ (R:Int) w (by omega) (by omega));have i1:(0:Int)<(n:Int):=by omega
  have i2:(n:Int)<=(t.size:Int):=by omega
  have i3:¬((t.size:Int)<(n:Int)):=by omega
  cases hv:Utf8.valid (R:Int)
  ·have pZ:chr (bl t)=none:=by
    cases hc:chr (bl t)with
    |none=>rfl
    |some rk=>
     obtain⟨r,k⟩:=rk;have e:=(kZ r k hc).2;have:=(chr_some hc).2.2.2.2.1;rw[e,hv]at this;cases this
   have hd:fD (bl t)=(0,0,30):=by unfold fD;rw[pZ,hfull pZ hge];rfl
   rw[hd];rw[hv]at oQ;clear hd hnone hfull hq hn lG pZ kZ hR hv hge cm;go_enter func191,ntmps191;go_wp2_with(first|(go_at_call 214;refine(hlong.out _).mono ?_;rintro e w1 ⟨rfl,aT⟩;have bi:=aT.symm;clear aT;subst bi)|(go_at_call 215;refine(Ie.out _).mono ?_;rintro e w2 ⟨rfl,aq⟩;have aq:=aa aq))
   go_quiet (first|(go_at_call 216;exact Calls.quiet_of_same (oQ.out _)))
   go_wp2
   go_ret3
   exact⟨rfl,eF aq.out _⟩
  have eY:=aa (fun w=>jj R w hv);rw[hv]at oQ;cases hc:chr (bl t)with
  |none=>
   have hd:fD (bl t)=(0,0,30):=by unfold fD;rw[hc,hfull hc hge];rfl
   rw[hd];obtain⟨u,hu⟩:∃u,Utf8.encode (R:Int)=u:=⟨_,rfl⟩
   have pX:(u.toList==(t.extract 0 n).toList)=false:=by rw[ui,beq_eq_false_iff_ne];intro e;have:=tF (l:=bl t) (n:=n) hv (by rw[hu];exact e) (by rw[bl_length];exact hge);rw[hc]at this;cases this
   rw[hu]at eY;clear hd hnone hfull hq hn lG hc kZ hR hv hge cm hu;go_enter func191,ntmps191;go_wp2_with(first|(go_at_call 214;refine(hlong.out _).mono ?_;rintro e w1 ⟨rfl,aT⟩;have bi:=aT.symm;clear aT;subst bi)|(go_at_call 215;refine(Ie.out _).mono ?_;rintro e w2 ⟨rfl,aq⟩;have aq:=aa aq))
   go_region_held3 (fun _=>True) (first|trivial|go_keep) (first|(go_at_call 216;refine(oQ.out _).mono ?_;rintro e w3 ⟨rfl,zj⟩;have Lt:=zj.symm;clear zj;subst Lt)|(go_at_call 217;refine(eY.out _).mono ?_;rintro e w4 ⟨rfl,aO⟩;have aO:=aa aO))
   go_wp2
   go_ret3
   exact⟨rfl,ac aq.out.drew aO.out⟩
  |some rk=>
   obtain⟨r,k⟩:=rk;obtain⟨e1,e2⟩:=kZ r k hc;have hb:=(chr_some hc).2.2.2.2.2;subst e1 e2;have hd:fD (bl t)=(r,k,0):=by unfold fD;rw[hc]
   rw[hd];obtain⟨u,hu⟩:∃u,Utf8.encode (r:Int)=u:=⟨_,rfl⟩
   rw[hu]at eY hb;have pX:(u.toList==(t.extract 0 k).toList)=true:=by rw[ui,hb];exact beq_self_eq_true _
   clear hd hnone hfull hq hn lG hc kZ hR hv hge cm hu hb;go_enter func191,ntmps191;go_wp2_with(first|(go_at_call 214;refine(hlong.out _).mono ?_;rintro e w1 ⟨rfl,aT⟩;have bi:=aT.symm;clear aT;subst bi)|(go_at_call 215;refine(Ie.out _).mono ?_;rintro e w2 ⟨rfl,aq⟩;have aq:=aa aq))
   go_region_held3 (fun _=>True) (first|trivial|go_keep) (first|(go_at_call 216;refine(oQ.out _).mono ?_;rintro e w3 ⟨rfl,zj⟩;have Lt:=zj.symm;clear zj;subst Lt)|(go_at_call 217;refine(eY.out _).mono ?_;rintro e w4 ⟨rfl,aO⟩;have aO:=aa aO))
   go_wp2
   go_ret3
   exact⟨rfl,ac aq.out.drew aO.out⟩
 rw[if_neg hr];by_cases h1:at'<0
 ·go_enter func191,ntmps191
  go_wp2
  go_ret3
  exact⟨rfl,af⟩
 have h2:(s.size:Int)<=at':=by omega
 have h3:(0:Int)<=at':=by omega
 clear hr;go_enter func191,ntmps191;go_wp2
 go_ret3
 exact⟨rfl,af⟩
theorem xW{l:List UInt8}{pos r n:Nat}(hp:pos<l.length)(h:chr (l.drop pos)=some (r,n)):lL (l.drop pos)=1+lL (l.drop (pos+n)):=by
 have aQ:l.drop pos≠[]:=by intro q;have:=congrArg List.length q;rw[List.length_drop]at this;simp at this;omega
 have hw:Ja (l.drop pos)=n:=by unfold Ja;rw[h];rfl
 rw[xY aQ,hw,List.drop_drop]
theorem Iz{l:List UInt8}{pos:Nat}(hp:pos<l.length):nW l (pos:Int)=fD (l.drop pos):=by unfold nW;rw[if_pos ⟨by omega,by omega⟩,Int.toNat_natCast]
theorem Dw{l:List UInt8}{pos:Nat}(h:run .i8 (l.take pos)=some .i8):okT l=okT (l.drop pos):=by
 unfold okT
 congr 1
 conv=>lhs;rw[<-List.take_append_drop pos l,run_app h]
theorem Dv{l:List UInt8}(hl:l≠[])(h:chr l=none):okT l=false:=by
 cases hk:okT l
 ·rfl
 obtain⟨r,n,h2,_⟩:=sj hl ((yJ l).1 hk);rw[h]at h2;cases h2
structure Cu(w:World)(s:ByteArray)(pos m:Nat)(W:World):Prop where
 below:Below w.heap.size w W
 le:pos<=s.size
 ml:m<=pos
 ok:run .i8 ((bl s).take pos)=some .i8
 cnt:lL (bl s)=m+lL ((bl s).drop pos)
def MC(l:List UInt8)(m e:Nat):Prop:=(okT l=true/\m=lL l/\e=0)\/(okT l=false/\m=0/\(e=30\/e=31))
theorem rcount_any(s:ByteArray)(w:World)(hs:s.size<=281474976710656):Calls prog 167 #[.string s] w fun x w'=>(∃m e:Nat,MC (bl s) m e/\x=.returned (.tuple #[.int .i64 m,.int .i64 e]))/\Below w.heap.size w w':=by
 have C0:Hid (Cu w s 0 0 w):=⟨af,Nat.zero_le _,Nat.le_refl _,by rw[List.take_zero];rfl,by rw[List.drop_zero];omega⟩
 go_enter func167,ntmps167;go_wp2;go_loopw [4,5] (fun n a w'=>∃m pos:Nat,n=.int .i64 m/\a=.int .i64 pos/\Hid (Cu w s pos m w')) (fun _ i _=>s.size-(intOf i).toNat)
 case atStart=>exact⟨0,0,rfl,rfl,C0.out⟩
 case round=>
  obtain⟨m,pos,rfl,rfl,C⟩:=hrel;have xq:=C.out.le;have nS:=C.out.ml;by_cases bm:pos<s.size
  ·have BY:pos<(bl s).length:=by rw[bl_length];exact bm
   have aQ:(bl s).drop pos≠[]:=by intro q;have:=congrArg List.length q;rw[List.length_drop]at this;simp at this;omega
   have PU:=aa (fun W=>ux s pos W hs);rw[Iz BY]at PU;have SN:(pos:Int)<(s.size:Int):=by omega
   cases hc:chr ((bl s).drop pos)with
   |some rk=>
    obtain⟨r,k⟩:=rk;have hd:fD ((bl s).drop pos)=(r,k,0):=by unfold fD;rw[hc]
    rw[hd]at PU;obtain⟨n1,n4,nl,LK,Jv,Nu⟩:=chr_some hc;rw[List.length_drop,bl_length]at nl;have Ia:=(cY r).1 Jv;have Xa:Hid (∀W,Below wr.heap.size wr W->Cu w s (pos+k) (m+1) W):=fun W hW=>⟨ac C.out.below hW,by omega,by omega,mL C.out.ok LK,by rw[C.out.cnt,xW BY hc];omega⟩
    clear hd hc LK Nu Jv aQ BY Ia;go_wp2_with(go_at_call 191;refine(PU.out _).mono ?_;rintro e w4 ⟨rfl,aO⟩;have aO:=aa aO)
    refine⟨⟨m+1,pos+k,by go_num,by go_num,Xa.out _ aO.out⟩,by simp[intOf];omega⟩
   |none=>
    have hk:okT (bl s)=false:=by rw[Dw C.out.ok];exact Dv aQ hc
    obtain⟨e,hd,he⟩:∃e:Nat,fD ((bl s).drop pos)=(0,0,e)/\(e=30\/e=31):=by
     unfold fD;rw[hc];cases(run .i8 ((bl s).drop pos)).isSome
     ·exact⟨30,rfl,.inl rfl⟩
     exact⟨31,rfl,.inr rfl⟩
    rw[hd]at PU;have eA:=aa (show MC (bl s) 0 e from .inr ⟨hk,rfl,he⟩);have hB:=aa C.out.below;have XJ:((e:Int)=0)=False:=eq_false (by omega);have XI:((e:Int)==0)=false:=by rw[beq_eq_false_iff_ne];omega
    clear hd hk hc aQ BY he;go_wp2_with(go_at_call 191;refine(PU.out _).mono ?_;rintro e w4 ⟨rfl,aO⟩;have aO:=aa aO)
    go_ret2;exact⟨⟨0,e,eA.out,rfl⟩,ac hB.out aO.out⟩
  have Ss:pos=s.size:=by omega
  have SN:¬((pos:Int)<(s.size:Int)):=by omega
  have hk:okT (bl s)=true:=by rw[yJ];have:=C.out.ok;rw[List.take_of_length_le (by rw[bl_length];omega)]at this;exact this
  have vQ:lL (bl s)=m:=by rw[C.out.cnt,List.drop_of_length_le (by rw[bl_length];omega),Bv];rfl
  have eA:=aa (show MC (bl s) m 0 from .inl ⟨hk,vQ.symm,rfl⟩);have hB:=aa C.out.below;clear Ss hk vQ;go_wp2;go_ret2;exact⟨⟨m,0,eA.out,rfl⟩,hB.out⟩
