import Derived.Test.YtcnfchblfcfimaaGreatDoorZh07
import Derived.Test.YtcnfchblfcfimaaGreatDoorZh00
import Derived.Test.YtcnfchblfcfimaaGreatDoorRows
import Derived.BigQuiet
import Derived.Laws.StandIn
set_option linter.all false
set_option maxHeartbeats 1000000
set_option maxRecDepth 100000
namespace Go.Proofs.YtcnfchblfcfimaaGreatDoor
open Proofs.Tryz RowKit
namespace Lx
theorem mw(c:UInt8)(w:World):Calls prog 179 #[.int .u8 (c.toNat:Int)] w fun e w'=>e=.returned (.bool (isDig c))/\w'=w:=by
 unfold isDig;by_cases h1:48<=c.toNat
 ·have i1:(48:Int)<=(c.toNat:Int):=by omega
  by_cases h2:c.toNat<=57
  ·have i2:(c.toNat:Int)<=57:=by omega
   rw[decide_eq_true ⟨h1,h2⟩];go_enter func179,ntmps179;go_wp2;go_ret;exact⟨rfl,rfl⟩
  have i2:¬((c.toNat:Int)<=57):=by omega
  rw[decide_eq_false (fun q=>h2 q.2)];go_enter func179,ntmps179;go_wp2;go_ret;exact⟨rfl,rfl⟩
 have i1:(c.toNat:Int)<48:=by omega
 rw[decide_eq_false (fun q=>h1 q.1)];go_enter func179,ntmps179;go_wp2;go_ret;exact⟨rfl,rfl⟩
theorem uT(c:UInt8):(c.toNat<65/\eD c=false)\/(65<=c.toNat/\c.toNat<=90/\eD c=true)\/(90<c.toNat/\c.toNat<97/\¬c.toNat=95/\eD c=false)\/(c.toNat=95/\eD c=true)\/(97<=c.toNat/\c.toNat<=122/\eD c=true)\/(122<c.toNat/\eD c=false):=by
 have:eD c=true↔(97<=c.toNat/\c.toNat<=122)\/(65<=c.toNat/\c.toNat<=90)\/c.toNat=95:=by simp only[eD,Bool.or_eq_true,decide_eq_true_eq,beq_iff_eq];omega
 cases h:eD c
 ·rw[h]at this
  have h2:=mt this.2 (by decide);simp;omega
 have h2:=this.1 h;simp;omega
theorem Cn(c:UInt8)(w:World):Calls prog 181 #[.int .u8 (c.toNat:Int)] w fun e w'=>e=.returned (.bool (eD c))/\w'=w:=by
 rcases uT c with⟨h1,h⟩|⟨h1,h2,h⟩|⟨h1,h2,h3,h⟩|⟨h1,h⟩|⟨h1,h2,h⟩|⟨h1,h⟩<;>rw[h]<;>clear h
 ·have i1:(c.toNat:Int)<97:=by omega
  have i2:(c.toNat:Int)<65:=by omega
  have i3:((c.toNat:Int)==95)=false:=by simp;omega
  clear h1;go_enter func181,ntmps181;go_wp2;go_ret;exact⟨rfl,rfl⟩
 ·have i1:(c.toNat:Int)<97:=by omega
  have i2:(65:Int)<=(c.toNat:Int):=by omega
  have i3:(c.toNat:Int)<=90:=by omega
  clear h1 h2;go_enter func181,ntmps181;go_wp2;go_ret;exact⟨rfl,rfl⟩
 ·have i1:(c.toNat:Int)<97:=by omega
  have i2:(65:Int)<=(c.toNat:Int):=by omega
  have i3:¬((c.toNat:Int)<=90):=by omega
  have i4:((c.toNat:Int)==95)=false:=by simp;omega
  clear h1 h2 h3;go_enter func181,ntmps181;go_wp2;go_ret;exact⟨rfl,rfl⟩
 ·rw[h1]
  clear h1;go_enter func181,ntmps181;go_wp2;go_ret;exact⟨rfl,rfl⟩
 ·have i1:(97:Int)<=(c.toNat:Int):=by omega
  have i3:(c.toNat:Int)<=122:=by omega
  clear h1 h2;go_enter func181,ntmps181;go_wp2;go_ret;exact⟨rfl,rfl⟩
 have i1:(97:Int)<=(c.toNat:Int):=by omega
 have i2:(65:Int)<=(c.toNat:Int):=by omega
 have i3:¬((c.toNat:Int)<=122):=by omega
 have i5:¬((c.toNat:Int)<=90):=by omega
 have i4:((c.toNat:Int)==95)=false:=by simp;omega
 clear h1;go_enter func181,ntmps181;go_wp2;go_ret;exact⟨rfl,rfl⟩
theorem GO(s:ByteArray)(c:Int)(w:World):(callFunc 224 #[.string s,.int .u8 c]).run prog w=.ok (.value (.int .i64 (firstIdx s c.toNat.toUInt8))) w:=by rw[run_callFunc_indexByte Tryz.func224 (by kernel_rfl) (by kernel_rfl) (by kernel_rfl) (by kernel_rfl),run_indexByte_string];rfl
theorem CM(s:ByteArray)(c:Int)(w:World):Calls prog 206 #[.string s,.int .u8 c] w fun r w'=>r=.returned (.int .i64 (firstIdx s c.toNat.toUInt8))/\w'=w:=by
 go_enter func206,ntmps206;go_wp2_with(first|rw[GO])
 go_ret;exact⟨rfl,rfl⟩
theorem rO(s:ByteArray)(c:Int)(w:World):Calls prog 177 #[.string s,.int .u8 c] w fun r w'=>r=.returned (.int .i64 (firstIdx s c.toNat.toUInt8))/\w'=w:=by
 have h:=aa (CM s c w);go_enter func177,ntmps177;go_wp2_with(go_at_call 206;refine h.out.mono ?_;rintro e w1 ⟨rfl,aT⟩;have bi:=aT.symm;clear aT;subst bi)
 go_ret;exact⟨rfl,rfl⟩
theorem OY:∀n:Fin 256,let c:=UInt8.ofNat n.val;
  decide (0<=firstIdx ⟨#[32,9,10,13]⟩ c)=zh c/\decide (0<=firstIdx ⟨#[46,101,69,43,45]⟩ c)=(c.toNat==46||c.toNat==101||c.toNat==69||c.toNat==43||c.toNat==45)/\decide (firstIdx ⟨#[46,59,44,58,61,40,41,91,93,123,125]⟩ c<0)=!gS c:=by decide +kernel
theorem Ei(c:UInt8):decide (0<=firstIdx ⟨#[32,9,10,13]⟩ c)=zh c/\decide (0<=firstIdx ⟨#[46,101,69,43,45]⟩ c)=(c.toNat==46||c.toNat==101||c.toNat==69||c.toNat==43||c.toNat==45)/\decide (firstIdx ⟨#[46,59,44,58,61,40,41,91,93,123,125]⟩ c<0)=!gS c:=by
 have:=OY ⟨c.toNat,c.toNat_lt⟩;simp only at this
 rwa [show UInt8.ofNat c.toNat=c by simp]at this
theorem MJ(c:UInt8)(w:World):Calls prog 176 #[.int .u8 (c.toNat:Int)] w fun e w'=>e=.returned (.bool (fW c))/\w'=w:=by
 by_cases h:c.toNat=10
 ·have e:fW c=false:=by simp[fW,h]
  rw[e,h];clear h e;go_enter func176,ntmps176;go_wp2;go_ret;exact⟨rfl,rfl⟩
 have e:fW c=true:=by simp[fW,h]
 have i1:((c.toNat:Int)==10)=false:=by simp;omega
 have i2:((c.toNat:Int) != 10)=true:=by simp;omega
 rw[e];clear h e;go_enter func176,ntmps176;go_wp2;go_ret;exact⟨rfl,rfl⟩
theorem MH(c:UInt8)(w:World):Calls prog 180 #[.int .u8 (c.toNat:Int)] w fun e w'=>e=.returned (.bool (dw c))/\w'=w:=by
 unfold dw;have hl:=aa (fun w=>Cn c w);have hd:=aa (fun w=>mw c w);obtain⟨a,ha⟩:∃a,eD c=a:=⟨_,rfl⟩
 obtain⟨b,hb⟩:∃b,isDig c=b:=⟨_,rfl⟩
 rw[ha]at hl ⊢;rw[hb]at hd ⊢;clear ha hb;cases a<;>cases b
 all_goals
  go_enter func180,ntmps180;go_wp2_with(first|(go_at_call 181;refine(hl.out _).mono ?_;rintro e w1 ⟨rfl,aT⟩;have bi:=aT.symm;clear aT;subst bi)|(go_at_call 179;refine(hd.out _).mono ?_;rintro e w2 ⟨rfl,gi⟩;have jm:=gi.symm;clear gi;subst jm))
  go_ret;exact⟨rfl,rfl⟩
theorem MG(c:UInt8)(w:World):Calls prog 182 #[.int .u8 (c.toNat:Int)] w fun e w'=>e=.returned (.bool (cT c))/\w'=w:=by
 have hi:=aa (fun w=>rO ⟨#[46,101,69,43,45]⟩ (c.toNat:Int) w);have hd:=aa (fun w=>mw c w);have hx:=(Ei c).2.1;have e0:((c.toNat:Int)).toNat.toUInt8=c:=by simp
 rw[e0]at hi;have e1:cT c=(isDig c||decide (0<=firstIdx ⟨#[46,101,69,43,45]⟩ c)):=by rw[hx];simp[cT,Bool.or_assoc]
 rw[e1];obtain⟨q,hq⟩:∃q:Int,firstIdx ⟨#[46,101,69,43,45]⟩ c=q:=⟨_,rfl⟩
 rw[hq]at hi ⊢;obtain⟨b,hb⟩:∃b,isDig c=b:=⟨_,rfl⟩
 rw[hb]at hd ⊢;clear hb hq e0 e1 hx;by_cases h0:0<=q
 all_goals
  first|rw[decide_eq_true h0]|rw[decide_eq_false h0]
  cases b
  all_goals
   go_enter func182,ntmps182;go_wp2_with(first|(go_at_call 177;refine(hi.out _).mono ?_;rintro e w1 ⟨rfl,aT⟩;have bi:=aT.symm;clear aT;subst bi)|(go_at_call 179;refine(hd.out _).mono ?_;rintro e w2 ⟨rfl,gi⟩;have jm:=gi.symm;clear gi;subst jm))
   go_ret
   first|exact⟨rfl,rfl⟩|(refine⟨?_,rfl⟩;show Ending.returned (Value.bool (decide (0<=q)))=_;rw[decide_eq_false (by omega)];rfl)
theorem rD(p:UInt8->Bool)(s:ByteArray)(k:Nat)(h:k<s.size):wh p ((bl s).drop k)=if p s[k] then wh p ((bl s).drop (k+1))+1 else 0:=by have hd:(bl s).drop k=(bl s)[k]'(by rw[bl_length];exact h)::(bl s).drop (k+1):=List.drop_eq_getElem_cons (by rw[bl_length];exact h);rw[hd,wh,bH s k h]
theorem vZ(p:UInt8->Bool)(s:ByteArray)(k:Nat)(h:¬k<s.size):wh p ((bl s).drop k)=0:=by rw[List.drop_of_length_le (by rw[bl_length];omega)];rfl
theorem Kk(s:ByteArray)(w:World)(hs:s.size<=1000000):Calls prog 175 #[.string s,.func (.func 176) #[] #[]] w fun e w'=>e=.returned (.int .i64 (wh fW (bl s):Nat))/\w'=w:=by
 go_enter func175,ntmps175;go_wp2;go_loop [5] (fun i=>∃k:Nat,i=.int .i64 k/\k<=s.size/\Hid (wh fW (bl s)=k+wh fW ((bl s).drop k))) (fun i=>s.size-(intOf i).toNat)
 case atStart=>exact⟨0,rfl,Nat.zero_le _,by show _=_;simp⟩
 case round=>
  obtain⟨k,rfl,hk,H⟩:=hrel;by_cases aE:k<s.size
  ·have bF:(k:Int)<(s.size:Int):=by omega
   have hd:=rD fW s k aE;have hc:=aa (MJ s[k]);obtain⟨b,hb⟩:∃b,fW s[k]=b:=⟨_,rfl⟩
   rw[hb]at hc hd;clear hb;cases b
   ·have H2:Hid (wh fW (bl s)=k):=by show _=_;rw[H.out,hd];rfl
    clear H hd;go_wp2_with(go_at_call 176;refine(hc.out _).mono ?_;rintro e w1 ⟨rfl,aT⟩;have bi:=aT.symm;clear aT;subst bi)
    go_ret;exact⟨by rw[H2.out];rfl,rfl⟩
   have H2:Hid (wh fW (bl s)=(k+1)+wh fW ((bl s).drop (k+1))):=by show _=_;rw[H.out,hd];simp only[if_true];omega
   clear H hd;go_wp2_with(go_at_call 176;refine(hc.out _).mono ?_;rintro e w1 ⟨rfl,aT⟩;have bi:=aT.symm;clear aT;subst bi)
   go_round
   case rel=>exact⟨k+1,by go_num,by omega,H2⟩
   case measure=>simp[intOf];omega
  have bF:¬(k:Int)<(s.size:Int):=by omega
  have H2:Hid (wh fW (bl s)=k):=by show _=_;rw[H.out,vZ _ s k aE];rfl
  clear H;go_wp2;go_ret;exact⟨by rw[H2.out];rfl,rfl⟩
theorem Kj(s:ByteArray)(w:World)(hs:s.size<=1000000):Calls prog 175 #[.string s,.func (.func 180) #[] #[]] w fun e w'=>e=.returned (.int .i64 (wh dw (bl s):Nat))/\w'=w:=by
 go_enter func175,ntmps175;go_wp2;go_loop [5] (fun i=>∃k:Nat,i=.int .i64 k/\k<=s.size/\Hid (wh dw (bl s)=k+wh dw ((bl s).drop k))) (fun i=>s.size-(intOf i).toNat)
 case atStart=>exact⟨0,rfl,Nat.zero_le _,by show _=_;simp⟩
 case round=>
  obtain⟨k,rfl,hk,H⟩:=hrel;by_cases aE:k<s.size
  ·have bF:(k:Int)<(s.size:Int):=by omega
   have hd:=rD dw s k aE;have hc:=aa (MH s[k]);obtain⟨b,hb⟩:∃b,dw s[k]=b:=⟨_,rfl⟩
   rw[hb]at hc hd;clear hb;cases b
   ·have H2:Hid (wh dw (bl s)=k):=by show _=_;rw[H.out,hd];rfl
    clear H hd;go_wp2_with(go_at_call 180;refine(hc.out _).mono ?_;rintro e w1 ⟨rfl,aT⟩;have bi:=aT.symm;clear aT;subst bi)
    go_ret;exact⟨by rw[H2.out];rfl,rfl⟩
   have H2:Hid (wh dw (bl s)=(k+1)+wh dw ((bl s).drop (k+1))):=by show _=_;rw[H.out,hd];simp only[if_true];omega
   clear H hd;go_wp2_with(go_at_call 180;refine(hc.out _).mono ?_;rintro e w1 ⟨rfl,aT⟩;have bi:=aT.symm;clear aT;subst bi)
   go_round
   case rel=>exact⟨k+1,by go_num,by omega,H2⟩
   case measure=>simp[intOf];omega
  have bF:¬(k:Int)<(s.size:Int):=by omega
  have H2:Hid (wh dw (bl s)=k):=by show _=_;rw[H.out,vZ _ s k aE];rfl
  clear H;go_wp2;go_ret;exact⟨by rw[H2.out];rfl,rfl⟩
theorem Ki(s:ByteArray)(w:World)(hs:s.size<=1000000):Calls prog 175 #[.string s,.func (.func 182) #[] #[]] w fun e w'=>e=.returned (.int .i64 (wh cT (bl s):Nat))/\w'=w:=by
 go_enter func175,ntmps175;go_wp2;go_loop [5] (fun i=>∃k:Nat,i=.int .i64 k/\k<=s.size/\Hid (wh cT (bl s)=k+wh cT ((bl s).drop k))) (fun i=>s.size-(intOf i).toNat)
 case atStart=>exact⟨0,rfl,Nat.zero_le _,by show _=_;simp⟩
 case round=>
  obtain⟨k,rfl,hk,H⟩:=hrel;by_cases aE:k<s.size
  ·have bF:(k:Int)<(s.size:Int):=by omega
   have hd:=rD cT s k aE;have hc:=aa (MG s[k]);obtain⟨b,hb⟩:∃b,cT s[k]=b:=⟨_,rfl⟩
   rw[hb]at hc hd;clear hb;cases b
   ·have H2:Hid (wh cT (bl s)=k):=by show _=_;rw[H.out,hd];rfl
    clear H hd;go_wp2_with(go_at_call 182;refine(hc.out _).mono ?_;rintro e w1 ⟨rfl,aT⟩;have bi:=aT.symm;clear aT;subst bi)
    go_ret;exact⟨by rw[H2.out];rfl,rfl⟩
   have H2:Hid (wh cT (bl s)=(k+1)+wh cT ((bl s).drop (k+1))):=by show _=_;rw[H.out,hd];simp only[if_true];omega
   clear H hd;go_wp2_with(go_at_call 182;refine(hc.out _).mono ?_;rintro e w1 ⟨rfl,aT⟩;have bi:=aT.symm;clear aT;subst bi)
   go_round
   case rel=>exact⟨k+1,by go_num,by omega,H2⟩
   case measure=>simp[intOf];omega
  have bF:¬(k:Int)<(s.size:Int):=by omega
  have H2:Hid (wh cT (bl s)=k):=by show _=_;rw[H.out,vZ _ s k aE];rfl
  clear H;go_wp2;go_ret;exact⟨by rw[H2.out];rfl,rfl⟩
end Lx
