/- Merged by program: AfParse. -/
import Derived.Test.YtgicnopppgnjjaaGreatDoorZd04
import Derived.Test.YtgicnopppgnjjaaGreatDoorAeShelf
import Derived.Test.YtgicnopppgnjjaaGreatDoorZd13
import Derived.Shelf.Strconv.ToError
import Derived.Lib.Strings
set_option linter.unusedSimpArgs false
set_option linter.unusedVariables false
namespace Go.Proofs.YtgicnopppgnjjaaGreatDoor
namespace Lx
open Go.Shelf Go.RowKit
set_option maxRecDepth 100000 in
theorem or32_n:∀ n:Nat,n<256→bits .or .u8 (n:Int) 32=((n ||| 32:Nat):Int):=by decide +kernel
set_option maxRecDepth 100000 in
theorem dig_n:∀ n:Nat,n<256→¬ (48≤n∧n≤57)→(97≤n ||| 32∧n ||| 32≤102→hxU n.toUInt8=some ((n ||| 32) - 87))∧(¬ (97≤n ||| 32∧n ||| 32≤102)→hxU n.toUInt8=none):=by decide +kernel
theorem or32 (c:UInt8):bits .or .u8 (c.toNat:Int) 32=((c.toNat ||| 32:Nat):Int):=or32_n c.toNat c.toNat_lt
theorem dig_c (c:UInt8) (h:¬ (48≤c.toNat∧c.toNat≤57)):(97≤c.toNat ||| 32∧c.toNat ||| 32≤102→hxU c=some ((c.toNat ||| 32) - 87))∧(¬ (97≤c.toNat ||| 32∧c.toNat ||| 32≤102)→hxU c=none):=by
 have:=dig_n c.toNat c.toNat_lt h
 rwa [show c.toNat.toUInt8=c by simp] at this
theorem hxU_lt {c:UInt8} {d:Nat} (h:hxU c=some d):d<16:=by
 unfold hxU at h
 split at h
 ·cases h;omega
 ·split at h
  ·cases h;omega
  ·split at h
   ·cases h;omega
   ·cases h
def puE:Ending:=.returned (.tuple #[.int .u64 0,.iface 258 (.int .i64 2)])
def puR (s:ByteArray):Ending:=if s.size=0 then puE else match hxN 0 (bl s) with
 | none=>puE
 | some n=>.returned (.tuple #[.int .u64 (n:Int),.nilIface])
set_option maxHeartbeats 4000000 in
set_option maxRecDepth 100000 in
theorem ipu16 (s:ByteArray) (hs:s.size≤4) (hne:s.size≠0) (w:World):Calls Tryz.prog 257 #[.string s,.int .i64 16,.int .i64 16] w fun e w'=>e=puR s∧Below w.heap.size w w':=by
 have hemp:s.toList.isEmpty=false:=by
  rw [←decide_eq_emptyBytes]
  exact decide_eq_false (fun h=>hne (by rw [h];rfl))
 have hcv:=Lib.run_convert_string_bytes (P:=Tryz.prog) w 9 124 5 s (u:=.string) Tryz.underlying9 Tryz.underlying124 Tryz.underlying5
 have hB:∀ j,j<s.size→(Lib.bytesWorld w 5 s).cell? ⟨w.heap.size,j,none⟩=some (.int .u8 (s.data.toList.getD j 0).toNat):=fun j hj=>Lib.bytesWorld_cell w 5 s j hj
 have hpu:Hid (puR s=match hxN 0 (bl s) with|none=>puE|some n=>.returned (.tuple #[.int .u64 (n:Int),.nilIface])):=by show _=_;unfold puR;rw [if_neg hne]
 have hBW:Hid (Below w.heap.size w (Lib.bytesWorld w 5 s)):=⟨rfl,rfl,rfl,by rw [Lib.bytesWorld_size];omega,fun j hj=>Lib.bytesWorld_at_old w 5 s j hj⟩
 obtain ⟨W1,hW1⟩:∃ W1,W1=Lib.bytesWorld w 5 s:=⟨_,rfl⟩
 rw [←hW1] at hcv hB hBW
 clear hW1
 rw [hpu.out]
 obtain ⟨bs,hL⟩:∃ bs,bs=bl s:=⟨_,rfl⟩
 have hLn:bs.length=s.size:=by rw [hL,bl_length]
 have hB2:∀ j,j<s.size→W1.cell? ⟨w.heap.size,j,none⟩=some (.int .u8 (bs.getD j 0).toNat):=fun j hj=>by rw [hB j hj,hL];rfl
 rw [←hL]
 clear hL hB hpu
 obtain ⟨o,ho⟩:∃ o:Ending,(match hxN 0 bs with|none=>puE|some n=>.returned (.tuple #[.int .u64 (n:Int),.nilIface]))=o:=⟨_,rfl⟩
 rw [ho]
 have HO:=hide ho
 clear ho
 have hmv:IntKind.u64.wrap (IntKind.u64.wrap 65536 - 1)=65535:=by
  rw [IntKind.wrap_u64,IntKind.wrap_u64]
  decide
 go_enter Tryz.func257, Tryz.ntmps257
 go_wp2
 go_loop [12,13,101] (fun vu vn vi=>∃ (k acc:Nat) (a:Int),vu=.bool false∧vn=.int .u64 a∧vi=.int .i64 k∧k≤s.size∧Hid (a=(acc:Int)∧acc<16 ^ k∧hxN 0 bs=hxN acc (bs.drop k))) (fun _ _ vi=>s.size - (intOf vi).toNat)
 case atStart=>exact ⟨0,0,0,rfl,rfl,rfl,by omega,rfl,by simp,rfl⟩
 case round =>
  obtain ⟨k,acc,a,rfl,rfl,rfl,hk,hh⟩:=hrel
  obtain ⟨ha,hacc,hdec⟩:=hh.out
  clear hh
  have a0:0≤a:=by omega
  have hp7:16 ^ k≤16 ^ 4:=Nat.pow_le_pow_right (by omega) (by omega)
  by_cases hkn:k<s.size
  ·have hp6:16 ^ k≤16 ^ 3:=Nat.pow_le_pow_right (by omega) (by omega)
   have a1:a<4096:=by
    have:(16:Nat) ^ 3=4096:=by decide
    omega
   have hc:=hB2 k hkn
   have hdrop:bs.drop k=bs[k]'(by omega) :: bs.drop (k + 1):=List.drop_eq_getElem_cons (by omega)
   have hget:bs.getD k 0=bs[k]'(by omega):=by simp [List.getD,List.getElem?_eq_getElem (show k<bs.length by omega)]
   rw [hdrop] at hdec
   rw [hget] at hc
   generalize bs[k]'(by omega)=c at hc hdec
   have hc256:c.toNat<256:=c.toNat_lt
   have hpk:Hid (∀ d,d<16→acc * 16 + d<16 ^ (k + 1)):=fun d hd=>by rw [Nat.pow_succ];omega
   clear hdrop hget hp6 hp7 hB2
   by_cases hdig:48≤c.toNat∧c.toNat≤57
   ·obtain ⟨hd0,hd1⟩:=hdig
    have e95:((c.toNat:Int)==95)=false:=by simp;omega
    have hU:hxU c=some (c.toNat - 48):=by unfold hxU;rw [if_pos ⟨hd0,hd1⟩]
    have HN:Hid (a * 16 + ((c.toNat:Int) - 48)=((acc * 16 + (c.toNat - 48):Nat):Int)∧acc * 16 + (c.toNat - 48)<16 ^ (k + 1)∧hxN 0 bs=hxN (acc * 16 + (c.toNat - 48)) (bs.drop (k + 1))):=⟨by omega,hpk.out _ (by omega),by rw [hdec,hxN,hU];simp only;rw [Nat.mul_comm]⟩
    have icut:a<1152921504606846976:=by omega
    have iov:a * 16 + ((c.toNat:Int) - 48)<65536:=by omega
    have hw1:IntKind.u64.wrap (a * 16)=a * 16:=by rw [IntKind.wrap_u64];omega
    have hw2:IntKind.u64.wrap (a * 16 + ((c.toNat:Int) - 48))=a * 16 + ((c.toNat:Int) - 48):=by rw [IntKind.wrap_u64];omega
    clear hacc hdec ha hU hpk
    go_wp2
    refine ⟨⟨k + 1,acc * 16 + (c.toNat - 48),a * 16 + ((c.toNat:Int) - 48),rfl,(by first|rfl|(congr 1;omega)),(by first|rfl|(congr 1;omega)),by omega,HN⟩,by simp [intOf];omega⟩
   ·obtain ⟨hu1,hu2⟩:=dig_c c hdig
    have hor:=or32 c
    obtain ⟨v,hv⟩:∃ v,c.toNat ||| 32=v:=⟨_,rfl⟩
    have hvl:v<256:=by rw [←hv];exact Nat.or_lt_two_pow (n:=8) (by omega) (by omega)
    rw [hv] at hu1 hu2 hor
    by_cases hlet:97≤v∧v≤102
    ·have hU:=hu1 hlet
     obtain ⟨hv0,hv1⟩:=hlet
     have h127:(95:Nat) ||| 32=127:=by decide
     have h95:¬ c.toNat=95:=fun e=>by rw [e] at hv;omega
     have e95:((c.toNat:Int)==95)=false:=by simp;omega
     have h48:¬ c.toNat<48:=fun e=>by
      have:c.toNat ||| 32<2 ^ 6:=Nat.or_lt_two_pow (by omega) (by omega)
      omega
     have hc57:(57:Int)<(c.toNat:Int):=by omega
     have hc48:(48:Int)≤(c.toNat:Int):=by omega
     have hiv0:(97:Int)≤(v:Int):=by omega
     have hiv1:(v:Int)≤102:=by omega
     have HN:Hid (a * 16 + ((v:Int) - 87)=((acc * 16 + (v - 87):Nat):Int)∧acc * 16 + (v - 87)<16 ^ (k + 1)∧hxN 0 bs=hxN (acc * 16 + (v - 87)) (bs.drop (k + 1))):=⟨by omega,hpk.out _ (by omega),by rw [hdec,hxN,hU];simp only;rw [Nat.mul_comm]⟩
     have icut:a<1152921504606846976:=by omega
     have iov:a * 16 + ((v:Int) - 87)<65536:=by omega
     have hw1:IntKind.u64.wrap (a * 16)=a * 16:=by rw [IntKind.wrap_u64];omega
     have hw2:IntKind.u64.wrap (a * 16 + ((v:Int) - 87))=a * 16 + ((v:Int) - 87):=by rw [IntKind.wrap_u64];omega
     have hw3:(v:Int) - 97 + 10=(v:Int) - 87:=by omega
     clear hacc hdec ha hU hpk hu1 hu2 hv h127 h95 h48 hdig
     go_wp2
     refine ⟨⟨k + 1,acc * 16 + (v - 87),a * 16 + ((v:Int) - 87),rfl,(by first|rfl|(congr 1;omega)),(by first|rfl|(congr 1;omega)),by omega,HN⟩,by simp [intOf];omega⟩
    ·have hU:=hu2 hlet
     have hno:hxN 0 bs=none:=by rw [hdec,hxN,hU]
     have HO2:Hid (o=puE):=by show _=_;rw [←HO.out,hno]
     clear hacc hdec ha hU hpk hu1 hu2 hno HO
     have hb1:97≤v→102<v:=fun q=>by
      by_cases hq:102<v
      ·exact hq
      ·exact absurd ⟨q,by omega⟩ hlet
     obtain ⟨b95,h95⟩:∃ b,((c.toNat:Int)==95)=b:=⟨_,rfl⟩
     by_cases hc48:c.toNat<48
     ·have i48:(c.toNat:Int)<48:=by omega
      have hv64:v<64:=by rw [←hv];exact Nat.or_lt_two_pow (n:=6) (by omega) (by omega)
      have iv:(v:Int)<97:=by omega
      clear hb1 hlet hdig hv
      cases b95
      all_goals
       go_wp2
       go_ret2
       exact ⟨HO2.out.symm,hBW.out⟩
     ·have i48:(57:Int)<(c.toNat:Int):=by omega
      have i49:(48:Int)≤(c.toNat:Int):=by omega
      by_cases hv97:v<97
      ·have iv:(v:Int)<97:=by omega
       clear hb1 hlet hdig hv
       cases b95
       all_goals
        go_wp2
        go_ret2
        exact ⟨HO2.out.symm,hBW.out⟩
      ·have iv:(97:Int)≤(v:Int):=by omega
       by_cases hv122:v≤122
       ·have iv1:(v:Int)≤122:=by omega
        have iv2:(102:Int)<(v:Int):=by have:=hb1 (by omega);omega
        have iw:IntKind.u8.wrap ((v:Int) - 97 + 10)=(v:Int) - 87:=by rw [IntKind.wrap_u8];omega
        clear hb1 hlet hdig hv
        cases b95
        all_goals
         go_wp2
         go_ret2
         exact ⟨HO2.out.symm,hBW.out⟩
       ·have iv1:(122:Int)<(v:Int):=by omega
        clear hb1 hlet hdig hv
        cases b95
        all_goals
         go_wp2
         go_ret2
         exact ⟨HO2.out.symm,hBW.out⟩
  ·have hke:k=s.size:=by omega
   have hkn':¬ (k:Int)<(s.size:Int):=by omega
   have hsome:hxN 0 bs=some acc:=by rw [hdec,List.drop_of_length_le (by omega)];rfl
   have HO2:Hid (o=.returned (.tuple #[.int .u64 a,.nilIface])):=by show _=_;rw [←HO.out,hsome,ha]
   clear hdec ha hacc hB2 hsome HO
   go_wp2
   go_ret2
   exact ⟨HO2.out.symm,hBW.out⟩
def Ge (w:World):Prop:=∃ ev,w.cell? ⟨11,0,none⟩=some ev∧(ev=.nilIface∨∃ te pe,ev=.iface te pe)
theorem Ge.low {w w1:World} {L:Nat} (h:Ge w) (hb:Below L w w1) (hL:12≤L):Ge w1:=by
 obtain ⟨ev,h1,h2⟩:=h
 refine ⟨ev,?_,h2⟩
 unfold World.cell? at h1 ⊢
 rw [hb.block _ (show (11:Nat)<L by omega)]
 exact h1
def puN (s:ByteArray):Option Nat:=if s.size=0 then none else hxN 0 (bl s)
def puP (o:Option Nat) (e:Ending):Prop:=match o with
 | none=>∃ T p,e=.returned (.tuple #[.int .u64 0,.iface T (.pointer (some p))])
 | some n=>e=.returned (.tuple #[.int .u64 (n:Int),.nilIface])
theorem hxN_lt:∀ (l:List UInt8) (a n:Nat),hxN a l=some n→n<(a + 1) * 16 ^ l.length
 | [],a,n,h=>by simp [hxN] at h;simp;omega
 | c :: l,a,n,h=>by
  unfold hxN at h
  split at h
  ·cases h
  ·rename_i d hd
   have:=hxN_lt l _ n h
   have hd16:=hxU_lt hd
   rw [List.length_cons,Nat.pow_succ]
   calc n<(16 * a + d + 1) * 16 ^ l.length:=this
    _≤(16 * (a + 1)) * 16 ^ l.length:=Nat.mul_le_mul_right _ (by omega)
    _=(a + 1) * (16 ^ l.length * 16):=by rw [Nat.mul_comm 16 (a + 1),Nat.mul_assoc,Nat.mul_comm 16]
set_option maxHeartbeats 1000000 in
set_option maxRecDepth 100000 in
theorem ipu0 (w:World):Calls Tryz.prog 257 #[.string ⟨#[]⟩,.int .i64 16,.int .i64 16] w fun e w'=>e=puE∧Below w.heap.size w w':=by
 unfold puE
 go_enter Tryz.func257, Tryz.ntmps257
 go_wp2
 go_ret2
 exact ⟨rfl,Below.refl _ _⟩
theorem ipu_q (s:ByteArray) (hs:s.size≤4) (w:World):Calls Tryz.prog 257 #[.string s,.int .i64 16,.int .i64 16] w fun e w'=>e=(match puN s with|none=>puE|some n=>.returned (.tuple #[.int .u64 (n:Int),.nilIface]))∧Below w.heap.size w w':=by
 by_cases h0:s.size=0
 ·have hs0:s=⟨#[]⟩:=by
   obtain ⟨d⟩:=s
   have:d.size=0:=h0
   rw [Array.eq_empty_of_size_eq_zero this]
  have:puN s=none:=by unfold puN;rw [if_pos h0]
  rw [this]
  subst hs0
  exact ipu0 w
 ·refine (ipu16 s hs h0 w).mono ?_
  rintro e w' ⟨h1,h2⟩
  refine ⟨?_,h2⟩
  rw [h1]
  unfold puR puN
  rw [if_neg h0,if_neg h0]
  first|done|rfl|(cases hxN 0 (bl s) <;> rfl)
set_option maxHeartbeats 1000000 in
set_option maxRecDepth 100000 in
theorem pu_q (s:ByteArray) (hs:s.size≤4) (w:World) (ge:Ge w) (hz8:12≤w.heap.size):Calls Tryz.prog 250 #[.string s,.int .i64 16,.int .i64 16] w fun e w'=>puP (puN s) e∧Below w.heap.size w w':=by
 have IP:=hide (fun w=>ipu_q s hs w)
 cases hn:puN s with
 | none =>
  rw [hn] at IP
  simp only [puE] at IP
  have TE:Hid (∀ w1,Below w.heap.size w w1→Calls Tryz.prog 258 #[.string ⟨#[80,97,114,115,101,85,105,110,116]⟩,.string s,.int .i64 16,.int .i64 16,.iface 258 (.int .i64 2)] w1 fun e w'=>∃ T N,e=.returned (.iface T (.pointer (some ⟨N,0,none⟩)))∧Below w1.heap.size w1 w'):=fun w1 hb=>by
   obtain ⟨ev,h1,h2⟩:=ge.low hb hz8
   refine (Any.strconv_toError_syntax laysTE ⟨#[80,97,114,115,101,85,105,110,116]⟩ s 16 16 ev w1 (by omega) h1 h2).mono ?_
   rintro e w' ⟨N,h1,_,_,h3⟩
   exact ⟨_,N,h1,h3⟩
  clear ge hn
  go_enter Tryz.func250, Tryz.ntmps250
  go_wp2_with (first|(go_at_call 257;refine (IP.out _).mono ?_;rintro e w1 ⟨rfl,hb1⟩;have B1:=hide hb1;clear hb1)|(go_at_call 258;refine (TE.out _ B1.out).mono ?_;rintro e w2 ⟨T,N,rfl,hb2⟩;have B2:Hid (Below w.heap.size w w2):=below_then B1.out hb2;clear hb2))
  refine bodyPost_ret (v:=.tuple #[.int .u64 0,.iface T (.pointer (some ⟨N,0,none⟩))]) (by simp [results,Tryz.results250,go_sem]) rfl ⟨⟨_,_,rfl⟩,B2.out⟩
 | some n =>
  rw [hn] at IP
  clear ge hn
  go_enter Tryz.func250, Tryz.ntmps250
  go_wp2_with (go_at_call 257;refine (IP.out _).mono ?_;rintro e w1 ⟨rfl,hb1⟩;have B1:=hide hb1;clear hb1)
  exact bodyPost_ret (v:=.tuple #[.int .u64 (n:Int),.nilIface]) (by simp [results,Tryz.results250,go_sem]) rfl ⟨rfl,B1.out⟩
end Lx
end Go.Proofs.YtgicnopppgnjjaaGreatDoor
