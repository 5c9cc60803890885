/- Merged by program: AgSmall. -/
import Derived.Test.YtgicnopppgnjjaaGreatDoorZd04
import Derived.Test.YtgicnopppgnjjaaGreatDoorZd00
import Derived.Test.YtgicnopppgnjjaaGreatDoorRows
import Derived.WalkKit
import Derived.WalkSpells
import Derived.WalkLawsBesides
import Derived.Outline
import Derived.BigQuiet
import Derived.Deep.RegionWith
import Derived.Laws.StandIn
set_option linter.unusedSimpArgs false
set_option linter.unusedVariables false
namespace Go.Proofs.YtgicnopppgnjjaaGreatDoor
namespace Lx
open Go.RowKit
theorem xdig_any (c:UInt8) (w:World):Calls Tryz.prog 191 #[.int .u8 (c.toNat:Int)] w fun e w'=>e=.returned (.bool (isDig c))∧w'=w:=by
 unfold isDig
 by_cases h1:48≤c.toNat
 ·have i1:(48:Int)≤(c.toNat:Int):=by omega
  by_cases h2:c.toNat≤57
  ·have i2:(c.toNat:Int)≤57:=by omega
   rw [decide_eq_true ⟨h1,h2⟩]
   go_enter Tryz.func191, Tryz.ntmps191
   go_wp2
   go_ret
   exact ⟨rfl,rfl⟩
  ·have i2:¬ ((c.toNat:Int)≤57):=by omega
   rw [decide_eq_false (fun q=>h2 q.2)]
   go_enter Tryz.func191, Tryz.ntmps191
   go_wp2
   go_ret
   exact ⟨rfl,rfl⟩
 ·have i1:(c.toNat:Int)<48:=by omega
  rw [decide_eq_false (fun q=>h1 q.1)]
  go_enter Tryz.func191, Tryz.ntmps191
  go_wp2
  go_ret
  exact ⟨rfl,rfl⟩
theorem let_ways (c:UInt8):(c.toNat<65∧isLet c=false)∨(65≤c.toNat∧c.toNat≤90∧isLet c=true)∨(90<c.toNat∧c.toNat<97∧¬ c.toNat=95∧isLet c=false)∨(c.toNat=95∧isLet c=true)∨(97≤c.toNat∧c.toNat≤122∧isLet c=true)∨(122<c.toNat∧isLet c=false):=by
 have:isLet c=true↔(97≤c.toNat∧c.toNat≤122)∨(65≤c.toNat∧c.toNat≤90)∨c.toNat=95:=by
  simp only [isLet,Bool.or_eq_true,decide_eq_true_eq,beq_iff_eq];omega
 cases h:isLet c
 ·rw [h] at this
  have h2:=mt this.2 (by decide)
  simp
  omega
 ·have h2:=this.1 h
  simp
  omega
theorem xlet_any (c:UInt8) (w:World):Calls Tryz.prog 193 #[.int .u8 (c.toNat:Int)] w fun e w'=>e=.returned (.bool (isLet c))∧w'=w:=by
 rcases let_ways c with ⟨h1,h⟩|⟨h1,h2,h⟩|⟨h1,h2,h3,h⟩|⟨h1,h⟩|⟨h1,h2,h⟩|⟨h1,h⟩ <;> rw [h] <;> clear h
 ·have i1:(c.toNat:Int)<97:=by omega
  have i2:(c.toNat:Int)<65:=by omega
  have i3:((c.toNat:Int)==95)=false:=by simp;omega
  clear h1
  go_enter Tryz.func193, Tryz.ntmps193
  go_wp2
  go_ret
  exact ⟨rfl,rfl⟩
 ·have i1:(c.toNat:Int)<97:=by omega
  have i2:(65:Int)≤(c.toNat:Int):=by omega
  have i3:(c.toNat:Int)≤90:=by omega
  clear h1 h2
  go_enter Tryz.func193, Tryz.ntmps193
  go_wp2
  go_ret
  exact ⟨rfl,rfl⟩
 ·have i1:(c.toNat:Int)<97:=by omega
  have i2:(65:Int)≤(c.toNat:Int):=by omega
  have i3:¬ ((c.toNat:Int)≤90):=by omega
  have i4:((c.toNat:Int)==95)=false:=by simp;omega
  clear h1 h2 h3
  go_enter Tryz.func193, Tryz.ntmps193
  go_wp2
  go_ret
  exact ⟨rfl,rfl⟩
 ·rw [h1]
  clear h1
  go_enter Tryz.func193, Tryz.ntmps193
  go_wp2
  go_ret
  exact ⟨rfl,rfl⟩
 ·have i1:(97:Int)≤(c.toNat:Int):=by omega
  have i3:(c.toNat:Int)≤122:=by omega
  clear h1 h2
  go_enter Tryz.func193, Tryz.ntmps193
  go_wp2
  go_ret
  exact ⟨rfl,rfl⟩
 ·have i1:(97:Int)≤(c.toNat:Int):=by omega
  have i2:(65:Int)≤(c.toNat:Int):=by omega
  have i3:¬ ((c.toNat:Int)≤122):=by omega
  have i5:¬ ((c.toNat:Int)≤90):=by omega
  have i4:((c.toNat:Int)==95)=false:=by simp;omega
  clear h1
  go_enter Tryz.func193, Tryz.ntmps193
  go_wp2
  go_ret
  exact ⟨rfl,rfl⟩
theorem run_ibs (s:ByteArray) (c:Int) (w:World):(callFunc 238 #[.string s,.int .u8 c]).run Tryz.prog w=.ok (.value (.int .i64 (firstIdx s c.toNat.toUInt8))) w:=by
 rw [run_callFunc_indexByte Tryz.func238 (by kernel_rfl) (by kernel_rfl) (by kernel_rfl) (by kernel_rfl),run_indexByte_string]
 rfl
theorem slib_any (s:ByteArray) (c:Int) (w:World):Calls Tryz.prog 217 #[.string s,.int .u8 c] w fun r w'=>r=.returned (.int .i64 (firstIdx s c.toNat.toUInt8))∧w'=w:=by
 go_enter Tryz.func217, Tryz.ntmps217
 go_wp2_with (first|rw [run_ibs])
 go_ret
 exact ⟨rfl,rfl⟩
theorem sib_any (s:ByteArray) (c:Int) (w:World):Calls Tryz.prog 189 #[.string s,.int .u8 c] w fun r w'=>r=.returned (.int .i64 (firstIdx s c.toNat.toUInt8))∧w'=w:=by
 have h:=hide (slib_any s c w)
 go_enter Tryz.func189, Tryz.ntmps189
 go_wp2_with (go_at_call 217;refine h.out.mono ?_;rintro e w1 ⟨rfl,hw1⟩;have hw1s:=hw1.symm;clear hw1;subst hw1s)
 go_ret
 exact ⟨rfl,rfl⟩
set_option maxRecDepth 100000 in
theorem idx_n:∀ n:Fin 256,let c:=UInt8.ofNat n.val;
  decide (0≤firstIdx ⟨#[32,9,10,13]⟩ c)=isBlk c∧decide (0≤firstIdx ⟨#[46,101,69,43,45]⟩ c)=(c.toNat==46 || c.toNat==101 || c.toNat==69 || c.toNat==43 || c.toNat==45)∧decide (firstIdx ⟨#[46,59,44,58,61,40,41,91,93,123,125]⟩ c<0)=!isMark c:=by decide +kernel
theorem idx_c (c:UInt8):decide (0≤firstIdx ⟨#[32,9,10,13]⟩ c)=isBlk c∧decide (0≤firstIdx ⟨#[46,101,69,43,45]⟩ c)=(c.toNat==46 || c.toNat==101 || c.toNat==69 || c.toNat==43 || c.toNat==45)∧decide (firstIdx ⟨#[46,59,44,58,61,40,41,91,93,123,125]⟩ c<0)=!isMark c:=by
 have:=idx_n ⟨c.toNat,c.toNat_lt⟩
 simp only at this
 rwa [show UInt8.ofNat c.toNat=c by simp] at this
theorem c1_any (c:UInt8) (w:World):Calls Tryz.prog 188 #[.int .u8 (c.toNat:Int)] w fun e w'=>e=.returned (.bool (notNl c))∧w'=w:=by
 by_cases h:c.toNat=10
 ·have e:notNl c=false:=by simp [notNl,h]
  rw [e,h]
  clear h e
  go_enter Tryz.func188, Tryz.ntmps188
  go_wp2
  go_ret
  exact ⟨rfl,rfl⟩
 ·have e:notNl c=true:=by simp [notNl,h]
  have i1:((c.toNat:Int)==10)=false:=by simp;omega
  have i2:((c.toNat:Int) != 10)=true:=by simp;omega
  rw [e]
  clear h e
  go_enter Tryz.func188, Tryz.ntmps188
  go_wp2
  go_ret
  exact ⟨rfl,rfl⟩
theorem c2_any (c:UInt8) (w:World):Calls Tryz.prog 192 #[.int .u8 (c.toNat:Int)] w fun e w'=>e=.returned (.bool (inName c))∧w'=w:=by
 unfold inName
 have hl:=hide (fun w=>xlet_any c w)
 have hd:=hide (fun w=>xdig_any c w)
 obtain ⟨a,ha⟩:∃ a,isLet c=a:=⟨_,rfl⟩
 obtain ⟨b,hb⟩:∃ b,isDig c=b:=⟨_,rfl⟩
 rw [ha] at hl ⊢
 rw [hb] at hd ⊢
 clear ha hb
 cases a <;> cases b
 all_goals
  go_enter Tryz.func192, Tryz.ntmps192
  go_wp2_with (first|(go_at_call 193;refine (hl.out _).mono ?_;rintro e w1 ⟨rfl,hw1⟩;have hw1s:=hw1.symm;clear hw1;subst hw1s)|(go_at_call 191;refine (hd.out _).mono ?_;rintro e w2 ⟨rfl,hw2⟩;have hw2s:=hw2.symm;clear hw2;subst hw2s))
  go_ret
  exact ⟨rfl,rfl⟩
theorem c3_any (c:UInt8) (w:World):Calls Tryz.prog 194 #[.int .u8 (c.toNat:Int)] w fun e w'=>e=.returned (.bool (inNum c))∧w'=w:=by
 have hi:=hide (fun w=>sib_any ⟨#[46,101,69,43,45]⟩ (c.toNat:Int) w)
 have hd:=hide (fun w=>xdig_any c w)
 have hx:=(idx_c c).2.1
 have e0:((c.toNat:Int)).toNat.toUInt8=c:=by simp
 rw [e0] at hi
 have e1:inNum c=(isDig c || decide (0≤firstIdx ⟨#[46,101,69,43,45]⟩ c)):=by rw [hx];simp [inNum,Bool.or_assoc]
 rw [e1]
 obtain ⟨q,hq⟩:∃ q:Int,firstIdx ⟨#[46,101,69,43,45]⟩ c=q:=⟨_,rfl⟩
 rw [hq] at hi ⊢
 obtain ⟨b,hb⟩:∃ b,isDig c=b:=⟨_,rfl⟩
 rw [hb] at hd ⊢
 clear hb hq e0 e1 hx
 by_cases h0:0≤q
 all_goals
  first|rw [decide_eq_true h0]|rw [decide_eq_false h0]
  cases b
  all_goals
   go_enter Tryz.func194, Tryz.ntmps194
   go_wp2_with (first|(go_at_call 189;refine (hi.out _).mono ?_;rintro e w1 ⟨rfl,hw1⟩;have hw1s:=hw1.symm;clear hw1;subst hw1s)|(go_at_call 191;refine (hd.out _).mono ?_;rintro e w2 ⟨rfl,hw2⟩;have hw2s:=hw2.symm;clear hw2;subst hw2s))
   go_ret
   first|exact ⟨rfl,rfl⟩|(refine ⟨?_,rfl⟩;show Ending.returned (Value.bool (decide (0≤q)))=_;rw [decide_eq_false (by omega)];rfl)
theorem wh_drop (p:UInt8→Bool) (s:ByteArray) (k:Nat) (h:k<s.size):wh p ((bl s).drop k)=if p s[k] then wh p ((bl s).drop (k + 1)) + 1 else 0:=by
 have hd:(bl s).drop k=(bl s)[k]'(by rw [bl_length];exact h) :: (bl s).drop (k + 1):=List.drop_eq_getElem_cons (by rw [bl_length];exact h)
 rw [hd,wh,bl_get s k h]
theorem wh_end (p:UInt8→Bool) (s:ByteArray) (k:Nat) (h:¬ k<s.size):wh p ((bl s).drop k)=0:=by
 rw [List.drop_of_length_le (by rw [bl_length];omega)];rfl
set_option maxHeartbeats 1000000 in
theorem run_nl (s:ByteArray) (w:World) (hs:s.size≤1000000):Calls Tryz.prog 187 #[.string s,.func (.func 188) #[] #[]] w fun e w'=>e=.returned (.int .i64 (wh notNl (bl s):Nat))∧w'=w:=by
 go_enter Tryz.func187, Tryz.ntmps187
 go_wp2
 go_loop [5] (fun i=>∃ k:Nat,i=.int .i64 k∧k≤s.size∧Hid (wh notNl (bl s)=k + wh notNl ((bl s).drop k))) (fun i=>s.size - (intOf i).toNat)
 case atStart=>exact ⟨0,rfl,Nat.zero_le _,by show _=_;simp⟩
 case round =>
  obtain ⟨k,rfl,hk,H⟩:=hrel
  by_cases hkl:k<s.size
  ·have hki:(k:Int)<(s.size:Int):=by omega
   have hd:=wh_drop notNl s k hkl
   have hc:=hide (c1_any s[k])
   obtain ⟨b,hb⟩:∃ b,notNl s[k]=b:=⟨_,rfl⟩
   rw [hb] at hc hd
   clear hb
   cases b
   ·have H2:Hid (wh notNl (bl s)=k):=by show _=_;rw [H.out,hd];rfl
    clear H hd
    go_wp2_with (go_at_call 188;refine (hc.out _).mono ?_;rintro e w1 ⟨rfl,hw1⟩;have hw1s:=hw1.symm;clear hw1;subst hw1s)
    go_ret
    exact ⟨by rw [H2.out];rfl,rfl⟩
   ·have H2:Hid (wh notNl (bl s)=(k + 1) + wh notNl ((bl s).drop (k + 1))):=by show _=_;rw [H.out,hd];simp only [if_true];omega
    clear H hd
    go_wp2_with (go_at_call 188;refine (hc.out _).mono ?_;rintro e w1 ⟨rfl,hw1⟩;have hw1s:=hw1.symm;clear hw1;subst hw1s)
    go_round
    case rel=>exact ⟨k + 1,by go_num,by omega,H2⟩
    case measure=>simp [intOf];omega
  ·have hki:¬ (k:Int)<(s.size:Int):=by omega
   have H2:Hid (wh notNl (bl s)=k):=by show _=_;rw [H.out,wh_end _ s k hkl];rfl
   clear H
   go_wp2
   go_ret
   exact ⟨by rw [H2.out];rfl,rfl⟩
set_option maxHeartbeats 1000000 in
theorem run_nm (s:ByteArray) (w:World) (hs:s.size≤1000000):Calls Tryz.prog 187 #[.string s,.func (.func 192) #[] #[]] w fun e w'=>e=.returned (.int .i64 (wh inName (bl s):Nat))∧w'=w:=by
 go_enter Tryz.func187, Tryz.ntmps187
 go_wp2
 go_loop [5] (fun i=>∃ k:Nat,i=.int .i64 k∧k≤s.size∧Hid (wh inName (bl s)=k + wh inName ((bl s).drop k))) (fun i=>s.size - (intOf i).toNat)
 case atStart=>exact ⟨0,rfl,Nat.zero_le _,by show _=_;simp⟩
 case round =>
  obtain ⟨k,rfl,hk,H⟩:=hrel
  by_cases hkl:k<s.size
  ·have hki:(k:Int)<(s.size:Int):=by omega
   have hd:=wh_drop inName s k hkl
   have hc:=hide (c2_any s[k])
   obtain ⟨b,hb⟩:∃ b,inName s[k]=b:=⟨_,rfl⟩
   rw [hb] at hc hd
   clear hb
   cases b
   ·have H2:Hid (wh inName (bl s)=k):=by show _=_;rw [H.out,hd];rfl
    clear H hd
    go_wp2_with (go_at_call 192;refine (hc.out _).mono ?_;rintro e w1 ⟨rfl,hw1⟩;have hw1s:=hw1.symm;clear hw1;subst hw1s)
    go_ret
    exact ⟨by rw [H2.out];rfl,rfl⟩
   ·have H2:Hid (wh inName (bl s)=(k + 1) + wh inName ((bl s).drop (k + 1))):=by show _=_;rw [H.out,hd];simp only [if_true];omega
    clear H hd
    go_wp2_with (go_at_call 192;refine (hc.out _).mono ?_;rintro e w1 ⟨rfl,hw1⟩;have hw1s:=hw1.symm;clear hw1;subst hw1s)
    go_round
    case rel=>exact ⟨k + 1,by go_num,by omega,H2⟩
    case measure=>simp [intOf];omega
  ·have hki:¬ (k:Int)<(s.size:Int):=by omega
   have H2:Hid (wh inName (bl s)=k):=by show _=_;rw [H.out,wh_end _ s k hkl];rfl
   clear H
   go_wp2
   go_ret
   exact ⟨by rw [H2.out];rfl,rfl⟩
set_option maxHeartbeats 1000000 in
theorem run_nu (s:ByteArray) (w:World) (hs:s.size≤1000000):Calls Tryz.prog 187 #[.string s,.func (.func 194) #[] #[]] w fun e w'=>e=.returned (.int .i64 (wh inNum (bl s):Nat))∧w'=w:=by
 go_enter Tryz.func187, Tryz.ntmps187
 go_wp2
 go_loop [5] (fun i=>∃ k:Nat,i=.int .i64 k∧k≤s.size∧Hid (wh inNum (bl s)=k + wh inNum ((bl s).drop k))) (fun i=>s.size - (intOf i).toNat)
 case atStart=>exact ⟨0,rfl,Nat.zero_le _,by show _=_;simp⟩
 case round =>
  obtain ⟨k,rfl,hk,H⟩:=hrel
  by_cases hkl:k<s.size
  ·have hki:(k:Int)<(s.size:Int):=by omega
   have hd:=wh_drop inNum s k hkl
   have hc:=hide (c3_any s[k])
   obtain ⟨b,hb⟩:∃ b,inNum s[k]=b:=⟨_,rfl⟩
   rw [hb] at hc hd
   clear hb
   cases b
   ·have H2:Hid (wh inNum (bl s)=k):=by show _=_;rw [H.out,hd];rfl
    clear H hd
    go_wp2_with (go_at_call 194;refine (hc.out _).mono ?_;rintro e w1 ⟨rfl,hw1⟩;have hw1s:=hw1.symm;clear hw1;subst hw1s)
    go_ret
    exact ⟨by rw [H2.out];rfl,rfl⟩
   ·have H2:Hid (wh inNum (bl s)=(k + 1) + wh inNum ((bl s).drop (k + 1))):=by show _=_;rw [H.out,hd];simp only [if_true];omega
    clear H hd
    go_wp2_with (go_at_call 194;refine (hc.out _).mono ?_;rintro e w1 ⟨rfl,hw1⟩;have hw1s:=hw1.symm;clear hw1;subst hw1s)
    go_round
    case rel=>exact ⟨k + 1,by go_num,by omega,H2⟩
    case measure=>simp [intOf];omega
  ·have hki:¬ (k:Int)<(s.size:Int):=by omega
   have H2:Hid (wh inNum (bl s)=k):=by show _=_;rw [H.out,wh_end _ s k hkl];rfl
   clear H
   go_wp2
   go_ret
   exact ⟨by rw [H2.out];rfl,rfl⟩
end Lx
end Go.Proofs.YtgicnopppgnjjaaGreatDoor
