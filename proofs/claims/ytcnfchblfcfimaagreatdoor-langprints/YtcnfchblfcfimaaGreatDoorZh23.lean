import Derived.Test.YtcnfchblfcfimaaGreatDoorAeShelf
import Derived.Test.YtcnfchblfcfimaaGreatDoorZh14
import Derived.Shelf.Strconv.ToError
set_option linter.all false
set_option maxHeartbeats 4000000
set_option maxRecDepth 100000
namespace Go.Proofs.YtcnfchblfcfimaaGreatDoor
open Proofs.Tryz
namespace Lx
open Go.Shelf Go.RowKit
theorem KH:∀n:Nat,n<256->bits .or .u8 (n:Int) 32=((n ||| 32:Nat):Int):=by decide +kernel
theorem Qw:∀n:Nat,n<256->¬(48<=n/\n<=57)->(97<=n ||| 32/\n ||| 32<=102->Gb n.toUInt8=some ((n ||| 32)-87))/\(¬(97<=n ||| 32/\n ||| 32<=102)->Gb n.toUInt8=none):=by decide +kernel
theorem RG(c:UInt8):bits .or .u8 (c.toNat:Int) 32=((c.toNat ||| 32:Nat):Int):=KH c.toNat c.toNat_lt
theorem Qx(c:UInt8)(h:¬(48<=c.toNat/\c.toNat<=57)):(97<=c.toNat ||| 32/\c.toNat ||| 32<=102->Gb c=some ((c.toNat ||| 32)-87))/\(¬(97<=c.toNat ||| 32/\c.toNat ||| 32<=102)->Gb c=none):=by
 have:=Qw c.toNat c.toNat_lt h
 rwa [show c.toNat.toUInt8=c by simp]at this
theorem Lp{c:UInt8}{d:Nat}(h:Gb c=some d):d<16:=by
 unfold Gb at h
 split at h
 ·cases h;omega
 split at h
 ·cases h;omega
 split at h
 ·cases h;omega
 cases h
def GY:Ending:=.returned (.tuple #[.int .u64 0,.iface 238 (.int .i64 2)])
def QI(s:ByteArray):Ending:=if s.size=0 then GY else match ov 0 (bl s)with
 |none=>GY
 |some n=>.returned (.tuple #[.int .u64 (n:Int),.nilIface])
theorem OX(s:ByteArray)(hs:s.size<=4)(aQ:s.size≠0)(w:World):Calls prog 244 #[.string s,.int .i64 16,.int .i64 16] w fun e w'=>e=QI s/\Below w.heap.size w w':=by
 have oO:s.toList.isEmpty=false:=by rw[<-decide_eq_emptyBytes];exact decide_eq_false (fun h=>aQ (by rw[h];rfl))
 have ln:=Lib.run_convert_string_bytes (P:=prog) w 9 94 5 s (u:=.string) Tryz.underlying9 Tryz.underlying94 Tryz.underlying5;have hB:∀j,j<s.size->(Lib.bytesWorld w 5 s).cell? ⟨w.heap.size,j,none⟩=some (.int .u8 (s.data.toList.getD j 0).toNat):=fun j hj=>Lib.bytesWorld_cell w 5 s j hj;have BX:Hid (QI s=match ov 0 (bl s)with|none=>GY|some n=>.returned (.tuple #[.int .u64 (n:Int),.nilIface])):=by show _=_;unfold QI;rw[if_neg aQ]
 have NC:Hid (Below w.heap.size w (Lib.bytesWorld w 5 s)):=⟨rfl,rfl,rfl,by rw[Lib.bytesWorld_size];omega,fun j hj=>Lib.bytesWorld_at_old w 5 s j hj⟩
 obtain⟨W1,Be⟩:∃W1,W1=Lib.bytesWorld w 5 s:=⟨_,rfl⟩
 rw[<-Be]at ln hB NC;clear Be;rw[BX.out];obtain⟨bs,hL⟩:∃bs,bs=bl s:=⟨_,rfl⟩
 have XN:bs.length=s.size:=by rw[hL,bl_length]
 have jR:∀j,j<s.size->W1.cell? ⟨w.heap.size,j,none⟩=some (.int .u8 (bs.getD j 0).toNat):=fun j hj=>by rw[hB j hj,hL];rfl
 rw[<-hL];clear hL hB BX;obtain⟨o,ho⟩:∃o:Ending,(match ov 0 bs with|none=>GY|some n=>.returned (.tuple #[.int .u64 (n:Int),.nilIface]))=o:=⟨_,rfl⟩
 rw[ho];have HO:=aa ho;clear ho;have Xz:IntKind.u64.wrap (IntKind.u64.wrap 65536-1)=65535:=by rw[IntKind.wrap_u64,IntKind.wrap_u64];decide
 go_enter func244,ntmps244;go_wp2;go_loop [12,13,101] (fun vu vn vi=>∃(k acc:Nat) (a:Int),vu=.bool false/\vn=.int .u64 a/\vi=.int .i64 k/\k<=s.size/\Hid (a=(acc:Int)/\acc<16^k/\ov 0 bs=ov acc (bs.drop k))) (fun _ _ vi=>s.size-(intOf vi).toNat)
 case atStart=>exact⟨0,0,0,rfl,rfl,rfl,by omega,rfl,by simp,rfl⟩
 case round=>
  obtain⟨k,acc,a,rfl,rfl,rfl,hk,hh⟩:=hrel;obtain⟨ha,EX,gj⟩:=hh.out;clear hh;have a0:0<=a:=by omega
  have VN:16^k<=16^4:=Nat.pow_le_pow_right (by omega) (by omega);by_cases ri:k<s.size
  ·have Py:16^k<=16^3:=Nat.pow_le_pow_right (by omega) (by omega)
   have a1:a<4096:=by
    have:(16:Nat)^3=4096:=by decide
    omega
   have hc:=jR k ri;have hdrop:bs.drop k=bs[k]'(by omega)::bs.drop (k+1):=List.drop_eq_getElem_cons (by omega);have pT:bs.getD k 0=bs[k]'(by omega):=by simp[List.getD,List.getElem?_eq_getElem (show k<bs.length by omega)]
   rw[hdrop]at gj;rw[pT]at hc;generalize bs[k]'(by omega)=c at hc gj;have hc256:c.toNat<256:=c.toNat_lt;have Pv:Hid (∀d,d<16->acc*16+d<16^(k+1)):=fun d hd=>by rw[Nat.pow_succ];omega
   clear hdrop pT Py VN jR;by_cases jM:48<=c.toNat/\c.toNat<=57
   ·obtain⟨WG,jN⟩:=jM
    have e95:((c.toNat:Int)==95)=false:=by simp;omega
    have hU:Gb c=some (c.toNat-48):=by unfold Gb;rw[if_pos ⟨WG,jN⟩]
    have HN:Hid (a*16+((c.toNat:Int)-48)=((acc*16+(c.toNat-48):Nat):Int)/\acc*16+(c.toNat-48)<16^(k+1)/\ov 0 bs=ov (acc*16+(c.toNat-48)) (bs.drop (k+1))):=⟨by omega,Pv.out _ (by omega),by rw[gj,ov,hU];simp only;rw[Nat.mul_comm]⟩
    have icut:a<1152921504606846976:=by omega
    have iov:a*16+((c.toNat:Int)-48)<65536:=by omega
    have aT:IntKind.u64.wrap (a*16)=a*16:=by rw[IntKind.wrap_u64];omega
    have gi:IntKind.u64.wrap (a*16+((c.toNat:Int)-48))=a*16+((c.toNat:Int)-48):=by rw[IntKind.wrap_u64];omega
    clear EX gj ha hU Pv;go_wp2;refine⟨⟨k+1,acc*16+(c.toNat-48),a*16+((c.toNat:Int)-48),rfl,(by first|rfl|(congr 1;omega)),(by first|rfl|(congr 1;omega)),by omega,HN⟩,by simp[intOf];omega⟩
   obtain⟨Ly,xm⟩:=Qx c jM;have VQ:=RG c;obtain⟨v,hv⟩:∃v,c.toNat ||| 32=v:=⟨_,rfl⟩
   have Xv:v<256:=by rw[<-hv];exact Nat.or_lt_two_pow (n:=8) (by omega) (by omega)
   rw[hv]at Ly xm VQ;by_cases vg:97<=v/\v<=102
   ·have hU:=Ly vg
    obtain⟨nd,Hv⟩:=vg;have h127:(95:Nat) ||| 32=127:=by decide
    have UM:¬c.toNat=95:=fun e=>by rw[e]at hv;omega
    have e95:((c.toNat:Int)==95)=false:=by simp;omega
    have Xe:¬c.toNat<48:=fun e=>by
     have:c.toNat ||| 32<2^6:=Nat.or_lt_two_pow (by omega) (by omega)
     omega
    have WM:(57:Int)<(c.toNat:Int):=by omega
    have To:(48:Int)<=(c.toNat:Int):=by omega
    have Wp:(97:Int)<=(v:Int):=by omega
    have Wo:(v:Int)<=102:=by omega
    have HN:Hid (a*16+((v:Int)-87)=((acc*16+(v-87):Nat):Int)/\acc*16+(v-87)<16^(k+1)/\ov 0 bs=ov (acc*16+(v-87)) (bs.drop (k+1))):=⟨by omega,Pv.out _ (by omega),by rw[gj,ov,hU];simp only;rw[Nat.mul_comm]⟩
    have icut:a<1152921504606846976:=by omega
    have iov:a*16+((v:Int)-87)<65536:=by omega
    have aT:IntKind.u64.wrap (a*16)=a*16:=by rw[IntKind.wrap_u64];omega
    have gi:IntKind.u64.wrap (a*16+((v:Int)-87))=a*16+((v:Int)-87):=by rw[IntKind.wrap_u64];omega
    have zj:(v:Int)-97+10=(v:Int)-87:=by omega
    clear EX gj ha hU Pv Ly xm hv h127 UM Xe jM;go_wp2;refine⟨⟨k+1,acc*16+(v-87),a*16+((v:Int)-87),rfl,(by first|rfl|(congr 1;omega)),(by first|rfl|(congr 1;omega)),by omega,HN⟩,by simp[intOf];omega⟩
   have hU:=xm vg;have iH:ov 0 bs=none:=by rw[gj,ov,hU]
   have HO2:Hid (o=GY):=by show _=_;rw[<-HO.out,iH]
   clear EX gj ha hU Pv Ly xm iH HO;have ai:97<=v->102<v:=fun q=>by
    by_cases hq:102<v
    ·exact hq
    exact absurd ⟨q,by omega⟩ vg
   obtain⟨b95,UM⟩:∃b,((c.toNat:Int)==95)=b:=⟨_,rfl⟩
   by_cases To:c.toNat<48
   ·have i48:(c.toNat:Int)<48:=by omega
    have VD:v<64:=by rw[<-hv];exact Nat.or_lt_two_pow (n:=6) (by omega) (by omega)
    have iv:(v:Int)<97:=by omega
    clear ai vg jM hv;cases b95
    all_goals
     go_wp2;go_ret2;exact⟨HO2.out.symm,NC.out⟩
   have i48:(57:Int)<(c.toNat:Int):=by omega
   have i49:(48:Int)<=(c.toNat:Int):=by omega
   by_cases VB:v<97
   ·have iv:(v:Int)<97:=by omega
    clear ai vg jM hv;cases b95
    all_goals
     go_wp2;go_ret2;exact⟨HO2.out.symm,NC.out⟩
   have iv:(97:Int)<=(v:Int):=by omega
   by_cases hv122:v<=122
   ·have iv1:(v:Int)<=122:=by omega
    have iv2:(102:Int)<(v:Int):=by have:=ai (by omega);omega
    have iw:IntKind.u8.wrap ((v:Int)-97+10)=(v:Int)-87:=by rw[IntKind.wrap_u8];omega
    clear ai vg jM hv;cases b95
    all_goals
     go_wp2;go_ret2;exact⟨HO2.out.symm,NC.out⟩
   have iv1:(122:Int)<(v:Int):=by omega
   clear ai vg jM hv;cases b95
   all_goals
    go_wp2;go_ret2;exact⟨HO2.out.symm,NC.out⟩
  have ox:k=s.size:=by omega
  have Wf:¬(k:Int)<(s.size:Int):=by omega
  have hsome:ov 0 bs=some acc:=by rw[gj,List.drop_of_length_le (by omega)];rfl
  have HO2:Hid (o=.returned (.tuple #[.int .u64 a,.nilIface])):=by show _=_;rw[<-HO.out,hsome,ha]
  clear gj ha EX jR hsome HO;go_wp2;go_ret2;exact⟨HO2.out.symm,NC.out⟩
def Ge(w:World):Prop:=∃ev,w.cell? ⟨11,0,none⟩=some ev/\(ev=.nilIface\/∃te pe,ev=.iface te pe)
theorem Ge.low{w w1:World}{L:Nat}(h:Ge w)(hb:Below L w w1)(hL:12<=L):Ge w1:=by obtain⟨ev,h1,h2⟩:=h;refine⟨ev,?_,h2⟩;unfold World.cell? at h1 ⊢;rw[hb.block _ (show(11:Nat)<L by omega)];exact h1
def Jh(s:ByteArray):Option Nat:=if s.size=0 then none else ov 0 (bl s)
def Vh(o:Option Nat)(e:Ending):Prop:=match o with
 |none=>∃T p,e=.returned (.tuple #[.int .u64 0,.iface T (.pointer (some p))])
 |some n=>e=.returned (.tuple #[.int .u64 (n:Int),.nilIface])
theorem Ej:∀(l:List UInt8) (a n:Nat),ov a l=some n->n<(a+1)*16^l.length
 | [],a,n,h=>by simp[ov]at h;simp;omega
 |c::l,a,n,h=>by
  unfold ov at h
  split at h
  ·cases h
  rename_i d hd;have:=Ej l _ n h;have WF:=Lp hd;rw[List.length_cons,Nat.pow_succ]
  calc n<(16*a+d+1)*16^l.length:=this
   _<=(16*(a+1))*16^l.length:=Nat.mul_le_mul_right _ (by omega)
   _=(a+1)*(16^l.length*16):=by rw[Nat.mul_comm 16 (a+1),Nat.mul_assoc,Nat.mul_comm 16]
theorem RN(w:World):Calls prog 244 #[.string ⟨#[]⟩,.int .i64 16,.int .i64 16] w fun e w'=>e=GY/\Below w.heap.size w w':=by unfold GY;go_enter func244,ntmps244;go_wp2;go_ret2;exact⟨rfl,af⟩
theorem OV(s:ByteArray)(hs:s.size<=4)(w:World):Calls prog 244 #[.string s,.int .i64 16,.int .i64 16] w fun e w'=>e=(match Jh s with|none=>GY|some n=>.returned (.tuple #[.int .u64 (n:Int),.nilIface]))/\Below w.heap.size w w':=by
 by_cases h0:s.size=0
 ·have ow:s=⟨#[]⟩:=by
   obtain⟨d⟩:=s;have:d.size=0:=h0;rw[Array.eq_empty_of_size_eq_zero this]
  have:Jh s=none:=by unfold Jh;rw[if_pos h0]
  rw[this];subst ow;exact RN w
 refine(OX s hs h0 w).mono ?_;rintro e w' ⟨h1,h2⟩;refine⟨?_,h2⟩;rw[h1];unfold QI Jh;rw[if_neg h0,if_neg h0]
 first|done|rfl|(cases ov 0 (bl s)<;>rfl)
theorem Rx(s:ByteArray)(hs:s.size<=4)(w:World)(ge:Ge w)(hz8:12<=w.heap.size):Calls prog 234 #[.string s,.int .i64 16,.int .i64 16] w fun e w'=>Vh (Jh s) e/\Below w.heap.size w w':=by
 have IP:=aa (fun w=>OV s hs w);cases hn:Jh s with
 |none=>
  rw[hn]at IP;simp only[GY]at IP;have TE:Hid (∀w1,Below w.heap.size w w1->Calls prog 245 #[.string ⟨#[80,97,114,115,101,85,105,110,116]⟩,.string s,.int .i64 16,.int .i64 16,.iface 238 (.int .i64 2)] w1 fun e w'=>∃T N,e=.returned (.iface T (.pointer (some ⟨N,0,none⟩)))/\Below w1.heap.size w1 w'):=fun w1 hb=>by obtain⟨ev,h1,h2⟩:=ge.low hb hz8;refine(Any.strconv_toError_syntax laysTE ⟨#[80,97,114,115,101,85,105,110,116]⟩ s 16 16 ev w1 (by omega) h1 h2).mono ?_;rintro e w' ⟨N,h1,_,_,h3⟩;exact⟨_,N,h1,h3⟩
  clear ge hn;go_enter func234,ntmps234;go_wp2_with(first|(go_at_call 244;refine(IP.out _).mono ?_;rintro e w1 ⟨rfl,ai⟩;have B1:=aa ai;clear ai)|(go_at_call 245;refine(TE.out _ B1.out).mono ?_;rintro e w2 ⟨T,N,rfl,aq⟩;have B2:Hid (Below w.heap.size w w2):=ac B1.out aq;clear aq))
  refine bodyPost_ret (v:=.tuple #[.int .u64 0,.iface T (.pointer (some ⟨N,0,none⟩))]) (by simp[results,Tryz.results234,go_sem]) rfl ⟨⟨_,_,rfl⟩,B2.out⟩
 |some n=>
  rw[hn]at IP;clear ge hn;go_enter func234,ntmps234;go_wp2_with(go_at_call 244;refine(IP.out _).mono ?_;rintro e w1 ⟨rfl,ai⟩;have B1:=aa ai;clear ai)
  exact bodyPost_ret (v:=.tuple #[.int .u64 (n:Int),.nilIface]) (by simp[results,Tryz.results234,go_sem]) rfl ⟨rfl,B1.out⟩
end Lx
