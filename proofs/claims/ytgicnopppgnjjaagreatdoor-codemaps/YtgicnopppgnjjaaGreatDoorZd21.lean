/- Merged by program: AiChar. -/
import Derived.Test.YtgicnopppgnjjaaGreatDoorZd12
import Derived.Test.YtgicnopppgnjjaaGreatDoorZd15
import Derived.Test.YtgicnopppgnjjaaGreatDoorZd16
set_option linter.unusedSimpArgs false
set_option linter.unusedVariables false
namespace Go.Proofs.YtgicnopppgnjjaaGreatDoor
namespace Lx
open Go.RowKit
structure Gg (w:World):Prop where
 gu:Ut.Gu w
 tabs:Lib.Utf8Tabs 8 9 w
 ge:Ge w
 lo:∀ k,k<5→w.cell? ⟨1,k,none⟩=some (.int .i64 (lgK k:Nat))
 wo:∀ k,k<5→w.cell? ⟨2,k,none⟩=some (.int .i64 (wdK k:Nat))
 sz:12≤w.heap.size
theorem Gg.below {w W:World} (g:Gg w) {L:Nat} (hb:Below L w W) (hL:12≤L):Gg W:=by
 have hc:∀ k o,k<12→W.cell? ⟨k,o,none⟩=w.cell? ⟨k,o,none⟩:=fun k o hk=>World.cell?_of_block (w:=w) (hb.block k (by omega))
 obtain ⟨t,fr,h0⟩:=g.gu.bt
 obtain ⟨t',fr',h1⟩:=g.gu.lg
 refine ⟨⟨⟨t,fr,by rw [hb.block _ (by omega)];exact h0⟩,⟨t',fr',by rw [hb.block _ (by omega)];exact h1⟩⟩,⟨fun c hcc=>by rw [hc _ c (by omega)];exact g.tabs.1 c hcc,fun i hi=>?_⟩,g.ge.low hb hL,fun k hk=>by rw [hc _ k (by omega)];exact g.lo k hk,fun k hk=>by rw [hc _ k (by omega)];exact g.wo k hk,Nat.le_trans g.sz hb.size⟩
 rw [hc _ _ (by omega),hc _ _ (by omega)]
 exact g.tabs.2 i hi
def chE (o:Option (List UInt8×Nat)):Ending:=match o with
 | none=>.returned (.tuple #[.string ⟨#[]⟩,.int .i64 0])
 | some (s,n)=>.returned (.tuple #[.string (mkB s),.int .i64 (n:Nat)])
theorem chE_none:chE none=.returned (.tuple #[.string ⟨#[]⟩,.int .i64 0]):=rfl
theorem chE_some (s:List UInt8) (n:Nat):chE (some (s,n))=.returned (.tuple #[.string (mkB s),.int .i64 (n:Nat)]):=rfl
theorem bl_two (s:ByteArray) (h:1<s.size):∃ l,bl s=s[0] :: s[1] :: l:=by
 have h0:0<s.size:=by omega
 have hl:0<(bl s).length:=by rw [bl_length];omega
 have hl1:1<(bl s).length:=by rw [bl_length];exact h
 refine ⟨(bl s).drop 2,?_⟩
 have e0:=List.drop_eq_getElem_cons hl
 have e1:=List.drop_eq_getElem_cons hl1
 rw [List.drop_zero] at e0
 exact (e0.trans (congrArg _ e1)).trans (by rw [bl_get s 0 h0,bl_get s 1 h])
set_option maxHeartbeats 1000000 in
set_option maxRecDepth 100000 in
theorem byNum_any (s:ByteArray) (w:World) (g:Gg w) (h2:2≤s.size) (hs:s.size≤100000):Calls Tryz.prog 239 #[.string s] w fun e w'=>e=chE (byN ((bl s).drop 2))∧Below w.heap.size w w':=by
 unfold byN
 have hlen:((bl s).drop 2).length=s.size - 2:=by rw [List.length_drop,bl_length]
 rw [hlen]
 by_cases h6:s.size<6
 ·rw [if_pos (by omega),chE_none]
  have i6:(s.size:Int)<6:=by omega
  go_enter Tryz.func239, Tryz.ntmps239
  go_wp2
  go_ret2
  exact ⟨rfl,Below.refl _ _⟩
 ·rw [if_neg (by omega)]
  have i6:¬ (s.size:Int)<6:=by omega
  have i6':(6:Int)≤(s.size:Int):=by omega
  obtain ⟨t,ht⟩:∃ t,s.extract 2 6=t:=⟨_,rfl⟩
  have htb:bl t=((bl s).drop 2).take 4:=by rw [←ht,extract_mkB,bl_mkB]
  have hts:t.size=4:=by rw [←bl_length,htb,List.length_take,hlen];omega
  have hpu:=hide (pu_q t (by omega) w g.ge g.sz)
  have hpn:puN t=hxN 0 (((bl s).drop 2).take 4):=by unfold puN;rw [if_neg (by omega),htb]
  rw [hpn] at hpu
  have hlt:∀ r,hxN 0 (((bl s).drop 2).take 4)=some r→r<65536:=fun r hr=>by
   have:=hxN_lt _ _ _ hr
   rw [←htb,bl_length,hts] at this
   simpa using this
  obtain ⟨o,ho⟩:∃ o,hxN 0 (((bl s).drop 2).take 4)=o:=⟨_,rfl⟩
  rw [ho] at hpu hlt ⊢
  clear g hpn htb ho hlen
  cases o with
  | none =>
   rw [chE_none]
   obtain hpu:Hid (Calls Tryz.prog 250 #[.string t,.int .i64 16,.int .i64 16] w fun e w'=>(∃ T p,e=.returned (.tuple #[.int .u64 0,.iface T (.pointer (some p))]))∧Below w.heap.size w w'):=hpu
   go_enter Tryz.func239, Tryz.ntmps239
   go_wp2_with (go_at_call 250;refine hpu.out.mono ?_;rintro e w1 ⟨⟨T,p,rfl⟩,hb1⟩;have hb1:=hide hb1)
   go_ret2
   exact ⟨rfl,hb1.out⟩
  | some r =>
   have hr:=hlt r rfl
   obtain hpu:Hid (Calls Tryz.prog 250 #[.string t,.int .i64 16,.int .i64 16] w fun e w'=>e=.returned (.tuple #[.int .u64 (r:Int),.nilIface])∧Below w.heap.size w w'):=hpu
   have hwr:IntKind.i64.wrap (r:Int)=r:=by rw [IntKind.wrap_i64];omega
   have hen:=hide (fun w=>Ut.encode_any (r:Int) w (by omega) (by omega))
   clear hlt
   simp only
   cases hv:Utf8.valid (r:Int)
   ·simp only [hv,Bool.false_eq_true,if_false] at hen ⊢
    rw [chE_none]
    go_enter Tryz.func239, Tryz.ntmps239
    go_wp2_with (first|(go_at_call 250;refine hpu.out.mono ?_;rintro e w1 ⟨rfl,hb1⟩;have hb1:=hide hb1)|(go_at_call 251;refine (hen.out _).mono ?_;rintro e w2 ⟨rfl,hw2⟩;have hw2s:=hw2.symm;clear hw2;subst hw2s))
    go_ret2
    exact ⟨rfl,hb1.out⟩
   ·simp only [hv,if_true] at hen ⊢
    rw [chE_some,show mkB (Ut.bl (Utf8.encode (r:Int)))=Utf8.encode (r:Int) from mkB_bl _]
    obtain ⟨E,hE⟩:∃ E,Utf8.encode (r:Int)=E:=⟨_,rfl⟩
    rw [hE] at hen ⊢
    clear hE
    go_enter Tryz.func239, Tryz.ntmps239
    go_wp2_with (first|(go_at_call 250;refine hpu.out.mono ?_;rintro e w1 ⟨rfl,hb1⟩;have hb1:=hide hb1)|(go_at_call 251;refine (hen.out _).mono ?_;rintro e w2 ⟨rfl,hw2⟩;have hw2s:=hw2.symm;clear hw2;subst hw2s))
    go_ret2
    exact ⟨rfl,hb1.out⟩
set_option maxHeartbeats 1000000 in
set_option maxRecDepth 100000 in
theorem esc_any (s:ByteArray) (w:World) (g:Gg w) (h0:0<s.size) (hs:s.size≤100000):Calls Tryz.prog 218 #[.string s] w fun e w'=>e=chE (escO ((bl s).drop 1))∧Below w.heap.size w w':=by
 by_cases h1:s.size=1
 ·have he:(bl s).drop 1=[]:=List.drop_of_length_le (by rw [bl_length];omega)
  rw [he]
  have i1:((s.size:Int)==1)=true:=by simp;omega
  show Calls _ _ _ _ fun e w'=>e=.returned (.tuple #[.string ⟨#[]⟩,.int .i64 0])∧Below w.heap.size w w'
  clear he h1
  go_enter Tryz.func218, Tryz.ntmps218
  go_wp2
  go_ret2
  exact ⟨rfl,Below.refl _ _⟩
 ·have i1:((s.size:Int)==1)=false:=by simp;omega
  have i2:(1:Int)<(s.size:Int):=by omega
  have i3:(2:Int)≤(s.size:Int):=by omega
  have h2:1<s.size:=by omega
  obtain ⟨l,hl⟩:=bl_two s h2
  have hd:(bl s).drop 1=s[1] :: l:=by rw [hl];rfl
  have hd2:(bl s).drop 2=l:=by rw [hl];rfl
  have hbn:=hide (byNum_any s w g (by omega) hs)
  rw [hd2] at hbn
  rw [hd]
  simp only [escO]
  have hext:s.extract 1 2=mkB [s[1]]:=by rw [extract_mkB,hd];rfl
  obtain ⟨c,hc⟩:∃ c,s[1]=c:=⟨_,rfl⟩
  rw [hc] at hext ⊢
  obtain ⟨o,ho⟩:∃ o,chE (byN l)=o:=⟨_,rfl⟩
  clear hl hd hd2 h1 g
  by_cases h34:c.toNat=34
  ·rw [if_pos (Or.inl h34),chE_some]
   have j1:((c.toNat:Int)==34)=true:=by simp;omega
   clear h34 ho
   go_enter Tryz.func218, Tryz.ntmps218
   go_wp2
   go_ret2
   exact ⟨rfl,Below.refl _ _⟩
  ·by_cases h92:c.toNat=92
   ·rw [if_pos (Or.inr h92),chE_some]
    have j1:((c.toNat:Int)==34)=false:=by simp;omega
    have j2:((c.toNat:Int)==92)=true:=by simp;omega
    clear h34 h92 ho
    go_enter Tryz.func218, Tryz.ntmps218
    go_wp2
    go_ret2
    exact ⟨rfl,Below.refl _ _⟩
   ·rw [if_neg (by omega)]
    have j1:((c.toNat:Int)==34)=false:=by simp;omega
    have j2:((c.toNat:Int)==92)=false:=by simp;omega
    by_cases h117:c.toNat=117
    ·rw [if_pos h117]
     have j3:((c.toNat:Int)==117)=true:=by simp;omega
     clear h34 h92 h117
     cases hq:byN l with
     | none =>
      rw [hq] at hbn
      simp only [chE_none] at hbn ⊢
      go_enter Tryz.func218, Tryz.ntmps218
      go_wp2_with (go_at_call 239;refine hbn.out.mono ?_;rintro e w1 ⟨rfl,hb1⟩;have hb1:=hide hb1)
      go_ret2
      exact ⟨rfl,hb1.out⟩
     | some x =>
      obtain ⟨x1,x2⟩:=x
      rw [hq] at hbn
      simp only [chE_some] at hbn ⊢
      go_enter Tryz.func218, Tryz.ntmps218
      go_wp2_with (go_at_call 239;refine hbn.out.mono ?_;rintro e w1 ⟨rfl,hb1⟩;have hb1:=hide hb1)
      go_ret2
      exact ⟨rfl,hb1.out⟩
    ·rw [if_neg h117,chE_none]
     have j3:((c.toNat:Int)==117)=false:=by simp;omega
     clear h34 h92 h117 ho
     go_enter Tryz.func218, Tryz.ntmps218
     go_wp2
     go_ret2
     exact ⟨rfl,Below.refl _ _⟩
set_option maxHeartbeats 1000000 in
set_option maxRecDepth 100000 in
theorem char_any (s:ByteArray) (w:World) (g:Gg w) (h0:0<s.size) (hs:s.size≤100000):Calls Tryz.prog 190 #[.string s] w fun e w'=>e=chE (chO (bl s))∧Below w.heap.size w w':=by
 obtain ⟨l,hl⟩:=bl_cons s h0
 have h0i:(0:Int)<(s.size:Int):=by omega
 have hes:=hide (esc_any s w g h0 hs)
 have hd:(bl s).drop 1=l:=by rw [hl];rfl
 rw [hd] at hes
 have hch:chO (bl s)=if s[0].toNat=92 then escO l else if s[0].toNat<32 then none else match Ut.chr (bl s) with|none=>none|some (_,n)=>some ((bl s).take n,n):=by rw [hl];rfl
 rw [hch]
 clear hch
 by_cases h92:s[0].toNat=92
 ·rw [if_pos h92]
  have j1:((s[0].toNat:Int)==92)=true:=by simp;omega
  clear h92 hl hd
  cases hq:escO l with
  | none =>
   rw [hq] at hes
   simp only [chE_none] at hes ⊢
   go_enter Tryz.func190, Tryz.ntmps190
   go_wp2_with (go_at_call 218;refine hes.out.mono ?_;rintro e w1 ⟨rfl,hb1⟩;have hb1:=hide hb1)
   go_ret2
   exact ⟨rfl,hb1.out⟩
  | some x =>
   obtain ⟨x1,x2⟩:=x
   rw [hq] at hes
   simp only [chE_some] at hes ⊢
   go_enter Tryz.func190, Tryz.ntmps190
   go_wp2_with (go_at_call 218;refine hes.out.mono ?_;rintro e w1 ⟨rfl,hb1⟩;have hb1:=hide hb1)
   go_ret2
   exact ⟨rfl,hb1.out⟩
 ·rw [if_neg h92]
  have j1:((s[0].toNat:Int)==92)=false:=by simp;omega
  by_cases h32:s[0].toNat<32
  ·rw [if_pos h32,chE_none]
   have j2:(s[0].toNat:Int)<32:=by omega
   clear h92 hl hd
   go_enter Tryz.func190, Tryz.ntmps190
   go_wp2
   go_ret2
   exact ⟨rfl,Below.refl _ _⟩
  ·rw [if_neg h32]
   have j2:¬ (s[0].toNat:Int)<32:=by omega
   have hdc:=hide (decode_any s 0 w g.gu g.tabs (by omega))
   have hda:decA (Ut.bl s) 0=decF (bl s):=by unfold decA;rw [if_pos ⟨by omega,by rw [Ut.bl_length];omega⟩];rfl
   rw [hda] at hdc
   clear h92 hl hd hda g hes
   cases hq:Ut.chr (bl s) with
   | none =>
    have hz:(decF (bl s)).2.1=0:=by unfold decF;rw [hq];simp only;split <;> rfl
    obtain ⟨x,hx⟩:∃ x,decF (bl s)=x:=⟨_,rfl⟩
    rw [hx] at hz hdc
    obtain ⟨x1,x2,x3⟩:=x
    simp only at hz
    subst hz
    simp only [chE_none]
    have he:s.extract 0 0=⟨#[]⟩:=by rw [extract_mkB];simp [mkB]
    have he':(s.extract 0 ((0:Nat):Int).toNat)=⟨#[]⟩:=he
    clear hx hq
    go_enter Tryz.func190, Tryz.ntmps190
    go_wp2_with (go_at_call 219;refine hdc.out.mono ?_;rintro e w1 ⟨rfl,hb1⟩;have hb1:=hide hb1)
    go_ret2
    exact ⟨by first|rfl|(rw [he];rfl)|simp [he],hb1.out⟩
   | some rn =>
    obtain ⟨r,n⟩:=rn
    have hz:decF (bl s)=(r,n,0):=by unfold decF;rw [hq]
    rw [hz] at hdc
    have hn:=(Ut.chr_some hq).2.2.1
    rw [bl_length] at hn
    have hni:(0:Int)≤(n:Int)∧(n:Int)≤(s.size:Int):=by omega
    obtain ⟨hn0,hn1⟩:=hni
    simp only [chE_some]
    have he:=take_mk s n
    clear hq hz hn
    go_enter Tryz.func190, Tryz.ntmps190
    go_wp2_with (go_at_call 219;refine hdc.out.mono ?_;rintro e w1 ⟨rfl,hb1⟩;have hb1:=hide hb1)
    go_ret2
    exact ⟨by first|rfl|(rw [←he];rfl)|simp [he],hb1.out⟩
end Lx
end Go.Proofs.YtgicnopppgnjjaaGreatDoor
