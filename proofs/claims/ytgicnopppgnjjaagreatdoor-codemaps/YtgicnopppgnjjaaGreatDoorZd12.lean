/- Merged by program: AdDec. -/
import Derived.Test.YtgicnopppgnjjaaGreatDoorUZd08
import Derived.Test.YtgicnopppgnjjaaGreatDoorAdShelf
import Derived.Shelf.Unicode.DecodeAny
import Derived.Lib.OthersKept
set_option linter.unusedSimpArgs false
set_option linter.unusedVariables false
namespace Go.Proofs.YtgicnopppgnjjaaGreatDoor
namespace Lx
open Go.Shelf Go.RowKit Ut
theorem decodeRune_any (s:ByteArray) (w:World) (hT:Lib.Utf8Tabs 8 9 w) :
  Calls Tryz.prog 240 #[.string s] w fun e w'=>e=.returned (.tuple #[.int .i32 (Lib.decodeGo s).1,.int .i64 (Lib.decodeGo s).2])∧Below w.heap.size w w':=Any.utf8_DecodeRuneInString laysDR s w hT
def decF (l:List UInt8):Nat×Nat×Nat:=match chr l with
 | some (r,n)=>(r,n,0)
 | none=>if (run .i8 l).isSome then (0,0,31) else (0,0,30)
def decA (l:List UInt8) (at':Int):Nat×Nat×Nat:=if 0≤at'∧at'<l.length then decF (l.drop at'.toNat) else (0,0,1)
theorem extract_bl (s:ByteArray) (pos:Nat):bl (s.extract pos s.size)=(bl s).drop pos:=by
 have:=Lib.extract_eq s pos s.size
 rw [this]
 show (((bl s).drop pos).take (s.size - pos))=_
 exact List.take_of_length_le (by rw [List.length_drop,bl_length];omega)
theorem decodeGo_chr (s:ByteArray) (h:0<s.size):Lib.decodeGo s=(chr (bl s)).getD (65533,1):=by
 unfold Lib.decodeGo
 rw [if_neg (by omega),decode_chr s 0 h,List.drop_zero]
set_option maxHeartbeats 1000000 in
theorem decode_any (s:ByteArray) (at':Int) (w:World) (g:Gu w) (hT:Lib.Utf8Tabs 8 9 w) (hs:s.size<9223372036854775807) :
  Calls Tryz.prog 219 #[.string s,.int .i64 at'] w fun r w'=>r=.returned (.tuple #[.int .i64 (decA (bl s) at').1,.int .i64 (decA (bl s) at').2.1,.int .i64 (decA (bl s) at').2.2])∧Below w.heap.size w w':=by
 unfold decA
 rw [bl_length]
 by_cases hr:0≤at'∧at'<(s.size:Int)
 ·rw [if_pos hr]
  obtain ⟨pos,rfl⟩:=Int.eq_ofNat_of_zero_le hr.1
  rw [Int.toNat_natCast]
  have hp:pos<s.size:=by omega
  obtain ⟨t,ht⟩:∃ t,s.extract pos s.size=t:=⟨_,rfl⟩
  have htb:bl t=(bl s).drop pos:=by rw [←ht];exact extract_bl s pos
  have hts:t.size=s.size - pos:=by rw [←bl_length,htb,List.length_drop,bl_length]
  have hdg:=decodeGo_chr t (by omega)
  rw [←htb]
  have hd:=hide (decodeRune_any t w hT)
  have hh:(0:Int)≤(pos:Int)∧¬ ((pos:Int)<0)∧¬ ((s.size:Int)≤(pos:Int)):=by omega
  obtain ⟨g1,g2,g3⟩:=hh
  cases hc:chr (bl t) with
  | some rn =>
   obtain ⟨r,n⟩:=rn
   have hdf:decF (bl t)=(r,n,0):=by unfold decF;rw [hc]
   rw [hdf]
   rw [hc] at hdg
   simp only [Option.getD_some] at hdg
   rw [hdg] at hd
   obtain ⟨n1,n4,nl,hrn,hv,_⟩:=chr_some hc
   have hrv:=(valid_iff r).1 hv
   have hwr:IntKind.i64.wrap (r:Int)=r:=by rw [IntKind.wrap_i64];omega
   have hbig:r=65533→1<n:=by
    intro e;subst e
    rcases chr_cases hc with ⟨a,t,_,rfl,h1,h2⟩|⟨a,b,t,_,rfl,h⟩|⟨a,b,c,t,_,rfl,h⟩|⟨a,b,c,d,t,_,rfl,h⟩ <;> omega
   clear hdg hdf hc hrn hv
   by_cases h5:r=65533
   ·have h6:(1:Int)<n:=by have:=hbig h5;omega
    subst h5
    go_enter Tryz.func219, Tryz.ntmps219
    go_wp2_with (go_at_call 240;refine hd.out.mono ?_;rintro r w1 ⟨rfl,hb1⟩;have hb1:=hide hb1)
    go_ret3
    exact ⟨rfl,hb1.out⟩
   ·have h6:¬ ((r:Int)=65533):=by omega
    go_enter Tryz.func219, Tryz.ntmps219
    go_wp2_with (go_at_call 240;refine hd.out.mono ?_;rintro r w1 ⟨rfl,hb1⟩;have hb1:=hide hb1)
    go_ret3
    exact ⟨rfl,hb1.out⟩
  | none =>
   rw [hc] at hdg
   simp only [Option.getD_none] at hdg
   rw [hdg] at hd
   have g:=hide g
   obtain ⟨o,ho⟩:∃ o,run .i8 (bl t)=o:=⟨_,rfl⟩
   have hth:=hide (fun w g=>thru_b0 t w g (by omega))
   have hdf:decF (bl t)=if o.isSome then (0,0,31) else (0,0,30):=by unfold decF;rw [hc,ho]
   rw [hdf]
   rw [ho] at hth
   clear hdg hdf hc ho
   cases o with
   | none =>
    simp only [stV,sp] at hth
    go_enter Tryz.func219, Tryz.ntmps219
    go_wp2_with (first|(go_at_call 240;refine hd.out.mono ?_;rintro r w1 ⟨rfl,hb1⟩;obtain ⟨d0,d1,d2,d3,d4,d5,d6,d7⟩:=(g.out.below hb1).bts;have hb1:=hide hb1)|(go_at_call 181;refine (hth.out _ (g.out.below hb1.out)).mono ?_;rintro r w2 ⟨rfl,hb2⟩;have hb2:=hide (below_then hb1.out hb2)))
    go_ret3
    exact ⟨rfl,by first|exact hb2.out|exact below_al hb2.out⟩
   | some q =>
    obtain ⟨a,b,c,d,e,f,g2',h,e1,heq⟩:=spV_ex q
    simp only [stV,e1,sp] at hth
    clear e1 heq
    go_enter Tryz.func219, Tryz.ntmps219
    go_wp2_with (first|(go_at_call 240;refine hd.out.mono ?_;rintro r w1 ⟨rfl,hb1⟩;obtain ⟨d0,d1,d2,d3,d4,d5,d6,d7⟩:=(g.out.below hb1).bts;have hb1:=hide hb1)|(go_at_call 181;refine (hth.out _ (g.out.below hb1.out)).mono ?_;rintro r w2 ⟨rfl,hb2⟩;have hb2:=hide (below_then hb1.out hb2)))
    go_ret3
    exact ⟨rfl,by first|exact hb2.out|exact below_al hb2.out⟩
 ·rw [if_neg hr]
  by_cases h1:at'<0
  ·go_enter Tryz.func219, Tryz.ntmps219
   go_wp2
   go_ret3
   exact ⟨rfl,Below.refl _ _⟩
  ·have h2:(s.size:Int)≤at':=by omega
   have h3:(0:Int)≤at':=by omega
   clear hr
   go_enter Tryz.func219, Tryz.ntmps219
   go_wp2
   go_ret3
   exact ⟨rfl,Below.refl _ _⟩
end Lx
end Go.Proofs.YtgicnopppgnjjaaGreatDoor
