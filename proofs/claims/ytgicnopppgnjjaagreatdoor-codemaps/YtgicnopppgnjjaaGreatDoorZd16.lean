/- Merged by program: AhSize. -/
import Derived.Test.YtgicnopppgnjjaaGreatDoorZd13
import Derived.Test.YtgicnopppgnjjaaGreatDoorZd05
set_option linter.unusedSimpArgs false
set_option linter.unusedVariables false
namespace Go.Proofs.YtgicnopppgnjjaaGreatDoor
namespace Lx
open Go.RowKit
def ParseOk:Prop:=∀ (s:ByteArray) (w:World),s.size≤100000→Calls Tryz.prog 166 #[.string s] w fun e w'=>e=retF (parseF (bl s))∧Below w.heap.size w w'
def nok (l:List UInt8):Bool:=!decide ((parseF l).2.2.2=10)
theorem bl_cons (s:ByteArray) (h:0<s.size):∃ l,bl s=s[0] :: l:=by
 have hl:0<(bl s).length:=by rw [bl_length];exact h
 refine ⟨(bl s).drop 1,?_⟩
 have:=List.drop_eq_getElem_cons hl
 rw [List.drop_zero] at this
 rw [this,bl_get s 0 h]
 rfl
theorem xblank_any (s:ByteArray) (w:World) (h0:0<s.size) (hs:s.size≤100000):Calls Tryz.prog 159 #[.string s] w fun e w'=>e=.returned (.int .i64 (blS (bl s):Nat))∧w'=w:=by
 obtain ⟨l,hl⟩:=bl_cons s h0
 have hr:=hide (run_nl s w (by omega))
 have hi:=hide (sib_any ⟨#[32,9,10,13]⟩ (s[0].toNat:Int) w)
 have hx:=(idx_c s[0]).1
 have e0:((s[0].toNat:Int)).toNat.toUInt8=s[0]:=by simp
 rw [e0] at hi
 have h0i:(0:Int)<(s.size:Int):=by omega
 by_cases h35:s[0].toNat=35
 ·have hb:blS (bl s)=wh notNl (bl s):=by rw [hl];simp only [blS,h35,if_true]
  rw [hb]
  have i35:((s[0].toNat:Int)==35)=true:=by simp;omega
  clear hb h35 hx hl e0
  go_enter Tryz.func159, Tryz.ntmps159
  go_wp2_with (go_at_call 187;refine hr.out.mono ?_;rintro e w1 ⟨rfl,hw1⟩;have hw1s:=hw1.symm;clear hw1;subst hw1s)
  go_ret
  exact ⟨rfl,rfl⟩
 ·have i35:((s[0].toNat:Int)==35)=false:=by simp;omega
  have hb:blS (bl s)=if isBlk s[0] then 1 else 0:=by rw [hl];simp only [blS,h35,if_false]
  rw [hb]
  obtain ⟨q,hq⟩:∃ q:Int,firstIdx ⟨#[32,9,10,13]⟩ s[0]=q:=⟨_,rfl⟩
  rw [hq] at hi hx
  rw [←hx]
  clear hb h35 hx hl e0 hq
  by_cases hq0:0≤q
  ·rw [decide_eq_true hq0]
   go_enter Tryz.func159, Tryz.ntmps159
   go_wp2_with (go_at_call 189;refine hi.out.mono ?_;rintro e w1 ⟨rfl,hw1⟩;have hw1s:=hw1.symm;clear hw1;subst hw1s)
   go_ret
   exact ⟨rfl,rfl⟩
  ·rw [decide_eq_false hq0]
   go_enter Tryz.func159, Tryz.ntmps159
   go_wp2_with (go_at_call 189;refine hi.out.mono ?_;rintro e w1 ⟨rfl,hw1⟩;have hw1s:=hw1.symm;clear hw1;subst hw1s)
   go_ret
   exact ⟨rfl,rfl⟩
theorem xname_any (s:ByteArray) (w:World) (h0:0<s.size) (hs:s.size≤100000):Calls Tryz.prog 161 #[.string s] w fun e w'=>e=.returned (.int .i64 (nmS (bl s):Nat))∧w'=w:=by
 obtain ⟨l,hl⟩:=bl_cons s h0
 have hr:=hide (run_nm s w (by omega))
 have hd:=hide (xdig_any s[0] w)
 have h0i:(0:Int)<(s.size:Int):=by omega
 have hb:nmS (bl s)=if isDig s[0] then 0 else wh inName (bl s):=by rw [hl];simp only [nmS]
 rw [hb]
 obtain ⟨b,hbb⟩:∃ b,isDig s[0]=b:=⟨_,rfl⟩
 rw [hbb] at hd ⊢
 clear hb hl hbb
 cases b
 all_goals
  simp only [Bool.false_eq_true,if_true,if_false]
  go_enter Tryz.func161, Tryz.ntmps161
  go_wp2_with (first|(go_at_call 187;refine hr.out.mono ?_;rintro e w1 ⟨rfl,hw1⟩;have hw1s:=hw1.symm;clear hw1;subst hw1s)|(go_at_call 191;refine hd.out.mono ?_;rintro e w1 ⟨rfl,hw1⟩;have hw1s:=hw1.symm;clear hw1;subst hw1s))
  go_ret
  exact ⟨rfl,rfl⟩
theorem xmark_any (s:ByteArray) (w:World) (h0:0<s.size) (hs:s.size≤100000):Calls Tryz.prog 163 #[.string s] w fun e w'=>e=.returned (.int .i64 (mkS (bl s):Nat))∧w'=w:=by
 obtain ⟨l,hl⟩:=bl_cons s h0
 have hi:=hide (sib_any ⟨#[46,59,44,58,61,40,41,91,93,123,125]⟩ (s[0].toNat:Int) w)
 have hx:=(idx_c s[0]).2.2
 have e0:((s[0].toNat:Int)).toNat.toUInt8=s[0]:=by simp
 rw [e0] at hi
 have h0i:(0:Int)<(s.size:Int):=by omega
 have hb:mkS (bl s)=if isMark s[0] then 1 else 0:=by rw [hl];simp only [mkS]
 rw [hb]
 obtain ⟨q,hq⟩:∃ q:Int,firstIdx ⟨#[46,59,44,58,61,40,41,91,93,123,125]⟩ s[0]=q:=⟨_,rfl⟩
 rw [hq] at hi hx
 have hm:isMark s[0]=!decide (q<0):=by rw [hx];simp
 rw [hm]
 clear hb hx hl e0 hq hm
 by_cases hq0:q<0
 ·rw [decide_eq_true hq0]
  go_enter Tryz.func163, Tryz.ntmps163
  go_wp2_with (go_at_call 189;refine hi.out.mono ?_;rintro e w1 ⟨rfl,hw1⟩;have hw1s:=hw1.symm;clear hw1;subst hw1s)
  go_ret
  exact ⟨rfl,rfl⟩
 ·rw [decide_eq_false hq0]
  go_enter Tryz.func163, Tryz.ntmps163
  go_wp2_with (go_at_call 189;refine hi.out.mono ?_;rintro e w1 ⟨rfl,hw1⟩;have hw1s:=hw1.symm;clear hw1;subst hw1s)
  go_ret
  exact ⟨rfl,rfl⟩
theorem take_mk (s:ByteArray) (n:Nat):s.extract 0 n=mkB ((bl s).take n):=by rw [extract_mkB];simp
set_option maxHeartbeats 1000000 in
theorem xnum_any (hP:ParseOk) (s:ByteArray) (w:World) (h0:0<s.size) (hs:s.size≤100000):Calls Tryz.prog 162 #[.string s] w fun e w'=>e=.returned (.int .i64 (nuS nok (bl s):Nat))∧Below w.heap.size w w':=by
 obtain ⟨l,hl⟩:=bl_cons s h0
 have hr:=hide (run_nu s w (by omega))
 have hd:=hide (xdig_any s[0] w)
 have h0i:(0:Int)<(s.size:Int):=by omega
 have hb:nuS nok (bl s)=if !(s[0].toNat==45) && !isDig s[0] then 0 else if nok ((bl s).take (wh inNum (bl s))) then wh inNum (bl s) else 0:=by rw [hl];simp only [nuS]
 rw [hb]
 have hwl:=wh_le inNum (bl s)
 rw [bl_length] at hwl
 obtain ⟨n,hn⟩:∃ n,wh inNum (bl s)=n:=⟨_,rfl⟩
 rw [hn] at hr hwl ⊢
 have hxt:=take_mk s n
 obtain ⟨t,ht⟩:∃ t,s.extract 0 n=t:=⟨_,rfl⟩
 have htb:bl t=(bl s).take n:=by rw [←ht,hxt,bl_mkB]
 have hts:t.size≤100000:=by rw [←bl_length,htb,List.length_take,bl_length];omega
 have hp:=hide (hP t w hts)
 rw [←htb]
 obtain ⟨a,ha⟩:∃ a,parseF (bl t)=a:=⟨_,rfl⟩
 obtain ⟨a1,a2,a3,a4⟩:=a
 have hnk:nok (bl t)=!decide (a4=10):=by unfold nok;rw [ha]
 rw [hnk]
 rw [ha] at hp
 simp only [retF] at hp
 have hni:(0:Int)≤(n:Int)∧(n:Int)≤(s.size:Int):=by omega
 obtain ⟨hn0,hn1⟩:=hni
 obtain ⟨b,hbb⟩:∃ b,isDig s[0]=b:=⟨_,rfl⟩
 rw [hbb] at hd ⊢
 obtain ⟨m,hm⟩:∃ m,(s[0].toNat==45)=m:=⟨_,rfl⟩
 have hm1:((s[0].toNat:Int)==45)=m:=by rw [←hm];cases h:(s[0].toNat==45) <;> simp at h ⊢ <;> omega
 have hm2:((s[0].toNat:Int) != 45)=!m:=by unfold bne;rw [hm1]
 rw [hm]
 clear hb hl hbb hn hxt htb hts ha hnk hm
 by_cases h10:a4=10
 ·subst h10
  cases m <;> cases b
  all_goals
   simp only [Bool.not_true,Bool.not_false,Bool.and_self,Bool.and_true,Bool.and_false,Bool.false_eq_true,if_true,if_false,decide_true]
   go_enter Tryz.func162, Tryz.ntmps162
   go_wp2_with (first|(go_at_call 187;refine hr.out.mono ?_;rintro e w1 ⟨rfl,hw1⟩;have hw1s:=hw1.symm;clear hw1;subst hw1s)|(go_at_call 191;refine hd.out.mono ?_;rintro e w1 ⟨rfl,hw1⟩;have hw1s:=hw1.symm;clear hw1;subst hw1s)|(go_at_call 166;refine hp.out.mono ?_;rintro e w2 ⟨rfl,hb2⟩;have hb2:=hide hb2))
   go_ret
   first|exact ⟨rfl,Below.refl _ _⟩|exact ⟨rfl,hb2.out⟩|exact ⟨rfl,below_al hb2.out⟩|(refine ⟨rfl,?_⟩;trace_state;exact below_set (below_al hb2.out) (by omega))
 ·have h10b:(a4==10)=false:=by simp [h10]
  have h10d:decide (a4=10)=false:=decide_eq_false h10
  cases m <;> cases b
  all_goals
   simp only [Bool.not_true,Bool.not_false,Bool.and_self,Bool.and_true,Bool.and_false,Bool.false_eq_true,if_true,if_false,h10d]
   go_enter Tryz.func162, Tryz.ntmps162
   go_wp2_with (first|(go_at_call 187;refine hr.out.mono ?_;rintro e w1 ⟨rfl,hw1⟩;have hw1s:=hw1.symm;clear hw1;subst hw1s)|(go_at_call 191;refine hd.out.mono ?_;rintro e w1 ⟨rfl,hw1⟩;have hw1s:=hw1.symm;clear hw1;subst hw1s)|(go_at_call 166;refine hp.out.mono ?_;rintro e w2 ⟨rfl,hb2⟩;have hb2:=hide hb2))
   go_ret
   first|exact ⟨rfl,Below.refl _ _⟩|exact ⟨rfl,hb2.out⟩|exact ⟨rfl,below_al hb2.out⟩|(refine ⟨rfl,?_⟩;trace_state;exact below_set (below_al hb2.out) (by omega))
end Lx
end Go.Proofs.YtgicnopppgnjjaaGreatDoor
