/- Merged by program: UzCount. -/
import Derived.Test.YthodiandebahdaaGreatDoorUZq15
namespace Go.Proofs.YthodiandebahdaaGreatDoor.Ut
open Go.RowKit
set_option linter.unusedSimpArgs false
set_option linter.unusedVariables false
set_option maxHeartbeats 8000000
theorem chars_take {l:List UInt8} {pos r n:Nat} (hp:pos<l.length)(h:chr (l.drop pos)=some (r,n)):chars (l.drop pos)=1+chars (l.drop (pos+n)):=by
 have hne:l.drop pos≠[]:=by intro q;have:=congrArg List.length q;rw [List.length_drop] at this;simp at this;omega
 have hw:wid (l.drop pos)=n:=by unfold wid;rw [h];rfl
 rw [chars_step hne,hw,List.drop_drop]
theorem decA_in {l:List UInt8} {pos:Nat} (hp:pos<l.length):decA l (pos:Int)=decF (l.drop pos):=by
 unfold decA
 rw [if_pos ⟨by omega,by omega⟩,Int.toNat_natCast]
theorem okT_drop {l:List UInt8} {pos:Nat} (h:run .i8 (l.take pos)=some .i8):okT l=okT (l.drop pos):=by
 unfold okT
 congr 1
 conv=>lhs;rw [←List.take_append_drop pos l,run_app h]
theorem okT_none {l:List UInt8} (hl:l≠[])(h:chr l=none):okT l=false:=by
 cases hk:okT l
 ·rfl
 ·obtain ⟨r,n,h2,_⟩:=ok_chr' hl ((okT_iff l).1 hk)
  rw [h] at h2;cases h2
structure Cu (w:World)(s:ByteArray)(pos m:Nat)(W:World):Prop where
 below:Below w.heap.size w W
 le:pos≤s.size
 ml:m≤pos
 ok:run .i8 ((bl s).take pos)=some .i8
 cnt:chars (bl s)=m+chars ((bl s).drop pos)
def cntE (l:List UInt8)(m e:Nat):Prop:=(okT l=true∧m=chars l∧e=0)∨(okT l=false∧m=0∧(e=30∨e=31))
set_option maxRecDepth 100000 in
theorem rcount_any (s:ByteArray)(w:World)(hs:s.size≤281474976710656) :
  Calls Tryz.prog 126 #[.string s] w fun x w'=>(∃ m e:Nat,cntE (bl s) m e∧x=.returned (.tuple #[.int .i64 m,.int .i64 e]))∧Below w.heap.size w w':=by
 have C0:Hid (Cu w s 0 0 w):=⟨Below.refl _ _,Nat.zero_le _,Nat.le_refl _,by rw [List.take_zero];rfl,by rw [List.drop_zero];omega⟩
 go_enter Tryz.func126, Tryz.ntmps126
 go_wp2
 go_loopw [4,5] (fun n a w'=>∃ m pos:Nat,n=.int .i64 m∧a=.int .i64 pos∧Hid (Cu w s pos m w')) (fun _ i _=>s.size - (intOf i).toNat)
 case atStart=>exact ⟨0,0,rfl,rfl,C0.out⟩
 case round =>
  obtain ⟨m,pos,rfl,rfl,C⟩:=hrel
  have hpl:=C.out.le
  have hml:=C.out.ml
  by_cases hlt:pos<s.size
  ·have hp':pos<(bl s).length:=by rw [bl_length];exact hlt
   have hne:(bl s).drop pos≠[]:=by intro q;have:=congrArg List.length q;rw [List.length_drop] at this;simp at this;omega
   have hde:=hide (fun W=>rdecode_any s pos W hs)
   rw [decA_in hp'] at hde
   have hli:(pos:Int)<(s.size:Int):=by omega
   cases hc:chr ((bl s).drop pos) with
   | some rk =>
    obtain ⟨r,k⟩:=rk
    have hd:decF ((bl s).drop pos)=(r,k,0):=by unfold decF;rw [hc]
    rw [hd] at hde
    obtain ⟨n1,n4,nl,hrn,hv',hb'⟩:=chr_some hc
    rw [List.length_drop,bl_length] at nl
    have hrv:=(valid_iff r).1 hv'
    have hC':Hid (∀ W,Below wr.heap.size wr W→Cu w s (pos+k) (m+1) W):=fun W hW=>⟨below_then C.out.below hW,by omega,by omega,run_take C.out.ok hrn,by rw [C.out.cnt,chars_take hp' hc];omega⟩
    clear hd hc hrn hb' hv' hne hp' hrv
    go_wp2_with (go_at_call 147;refine (hde.out _).mono ?_;rintro e w4 ⟨rfl,hb4⟩;have hb4:=hide hb4)
    refine ⟨⟨m+1,pos+k,by go_num,by go_num,hC'.out _ hb4.out⟩,by simp [intOf];omega⟩
   | none =>
    have hk:okT (bl s)=false:=by rw [okT_drop C.out.ok];exact okT_none hne hc
    obtain ⟨e,hd,he⟩:∃ e:Nat,decF ((bl s).drop pos)=(0,0,e)∧(e=30∨e=31):=by
     unfold decF;rw [hc]
     cases (run .i8 ((bl s).drop pos)).isSome
     ·exact ⟨30,rfl,.inl rfl⟩
     ·exact ⟨31,rfl,.inr rfl⟩
    rw [hd] at hde
    have hfin:=hide (show cntE (bl s) 0 e from .inr ⟨hk,rfl,he⟩)
    have hB:=hide C.out.below
    have he1:((e:Int)=0)=False:=eq_false (by omega)
    have he2:((e:Int)==0)=false:=by rw [beq_eq_false_iff_ne];omega
    clear hd hk hc hne hp' he
    go_wp2_with (go_at_call 147;refine (hde.out _).mono ?_;rintro e w4 ⟨rfl,hb4⟩;have hb4:=hide hb4)
    go_ret2
    exact ⟨⟨0,e,hfin.out,rfl⟩,below_then hB.out hb4.out⟩
  ·have hpe:pos=s.size:=by omega
   have hli:¬ ((pos:Int)<(s.size:Int)):=by omega
   have hk:okT (bl s)=true:=by
    rw [okT_iff]
    have:=C.out.ok
    rw [List.take_of_length_le (by rw [bl_length];omega)] at this
    exact this
   have hcc:chars (bl s)=m:=by
    rw [C.out.cnt,List.drop_of_length_le (by rw [bl_length];omega),chars_nil];rfl
   have hfin:=hide (show cntE (bl s) m 0 from .inl ⟨hk,hcc.symm,rfl⟩)
   have hB:=hide C.out.below
   clear hpe hk hcc
   go_wp2
   go_ret2
   exact ⟨⟨m,0,hfin.out,rfl⟩,hB.out⟩
end Go.Proofs.YthodiandebahdaaGreatDoor.Ut
