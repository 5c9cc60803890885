import Derived.Test.YtcnfchblfcfimaaGreatDoorUZh13
import Derived.Test.YtcnfchblfcfimaaGreatDoorAdShelf
import Derived.Shelf.Unicode.DecodeAny
import Derived.Lib.OthersKept
set_option linter.all false
set_option maxHeartbeats 1000000
namespace Go.Proofs.YtcnfchblfcfimaaGreatDoor
open Proofs.Tryz
namespace Lx
open Go.Shelf Go.RowKit Ut
theorem qi(s:ByteArray)(w:World)(hT:Lib.Utf8Tabs 8 9 w):Calls prog 226 #[.string s] w fun e w'=>e=.returned (.tuple #[.int .i32 (Lib.decodeGo s).1,.int .i64 (Lib.decodeGo s).2])/\Below w.heap.size w w':=Any.utf8_DecodeRuneInString laysDR s w hT
def fD(l:List UInt8):Nat×Nat×Nat:=match chr l with
 |some (r,n)=>(r,n,0)
 |none=>if (run .i8 l).isSome then (0,0,31) else (0,0,30)
def nW(l:List UInt8)(at':Int):Nat×Nat×Nat:=if 0<=at'/\at'<l.length then fD (l.drop at'.toNat) else (0,0,1)
theorem mh(s:ByteArray)(pos:Nat):bl (s.extract pos s.size)=(bl s).drop pos:=by have:=Lib.extract_eq s pos s.size;rw[this];show(((bl s).drop pos).take (s.size-pos))=_;exact List.take_of_length_le (by rw[List.length_drop,bl_length];omega)
theorem tB(s:ByteArray)(h:0<s.size):Lib.decodeGo s=(chr (bl s)).getD (65533,1):=by unfold Lib.decodeGo;rw[if_neg (by omega),qh s 0 h,List.drop_zero]
theorem xV(s:ByteArray)(at':Int)(w:World)(g:Gu w)(hT:Lib.Utf8Tabs 8 9 w)(hs:s.size<9223372036854775807):Calls prog 208 #[.string s,.int .i64 at'] w fun r w'=>r=.returned (.tuple #[.int .i64 (nW (bl s) at').1,.int .i64 (nW (bl s) at').2.1,.int .i64 (nW (bl s) at').2.2])/\Below w.heap.size w w':=by
 unfold nW;rw[bl_length];by_cases hr:0<=at'/\at'<(s.size:Int)
 ·rw[if_pos hr]
  obtain⟨pos,rfl⟩:=Int.eq_ofNat_of_zero_le hr.1;rw[Int.toNat_natCast];have hp:pos<s.size:=by omega
  obtain⟨t,ht⟩:∃t,s.extract pos s.size=t:=⟨_,rfl⟩
  have mu:bl t=(bl s).drop pos:=by rw[<-ht];exact mh s pos
  have lG:t.size=s.size-pos:=by rw[<-bl_length,mu,List.length_drop,bl_length]
  have eU:=tB t (by omega);rw[<-mu];have hd:=aa (qi t w hT);have hh:(0:Int)<=(pos:Int)/\¬((pos:Int)<0)/\¬((s.size:Int)<=(pos:Int)):=by omega
  obtain⟨g1,g2,g3⟩:=hh;cases hc:chr (bl t)with
  |some rn=>
   obtain⟨r,n⟩:=rn;have PR:fD (bl t)=(r,n,0):=by unfold fD;rw[hc]
   rw[PR];rw[hc]at eU;simp only[Option.getD_some]at eU;rw[eU]at hd;obtain⟨n1,n4,nl,LK,hv,_⟩:=chr_some hc;have Ia:=(cY r).1 hv;have Em:IntKind.i64.wrap (r:Int)=r:=by rw[IntKind.wrap_i64];omega
   have eX:r=65533->1<n:=by intro e;subst e;rcases ja hc with⟨a,t,_,rfl,h1,h2⟩|⟨a,b,t,_,rfl,h⟩|⟨a,b,c,t,_,rfl,h⟩|⟨a,b,c,d,t,_,rfl,h⟩<;>omega
   clear eU PR hc LK hv;by_cases h5:r=65533
   ·have h6:(1:Int)<n:=by have:=eX h5;omega
    subst h5;go_enter func208,ntmps208;go_wp2_with(go_at_call 226;refine hd.out.mono ?_;rintro r w1 ⟨rfl,ai⟩;have ai:=aa ai)
    go_ret3
    exact⟨rfl,ai.out⟩
   have h6:¬((r:Int)=65533):=by omega
   go_enter func208,ntmps208;go_wp2_with(go_at_call 226;refine hd.out.mono ?_;rintro r w1 ⟨rfl,ai⟩;have ai:=aa ai)
   go_ret3
   exact⟨rfl,ai.out⟩
  |none=>
   rw[hc]at eU;simp only[Option.getD_none]at eU;rw[eU]at hd;have g:=aa g;obtain⟨o,ho⟩:∃o,run .i8 (bl t)=o:=⟨_,rfl⟩
   have Pi:=aa (fun w g=>yn t w g (by omega));have PR:fD (bl t)=if o.isSome then (0,0,31) else (0,0,30):=by unfold fD;rw[hc,ho]
   rw[PR];rw[ho]at Pi;clear eU PR hc ho;cases o with
   |none=>
    simp only[lP,sp]at Pi;go_enter func208,ntmps208;go_wp2_with(first|(go_at_call 226;refine hd.out.mono ?_;rintro r w1 ⟨rfl,ai⟩;obtain⟨d0,d1,d2,d3,d4,d5,d6,d7⟩:=(g.out.below ai).bts;have ai:=aa ai)|(go_at_call 158;refine(Pi.out _ (g.out.below ai.out)).mono ?_;rintro r w2 ⟨rfl,aq⟩;have aq:=aa (ac ai.out aq)))
    go_ret3
    exact⟨rfl,by first|exact aq.out|exact ab aq.out⟩
   |some q=>
    obtain⟨a,b,c,d,e,f,g2',h,e1,pX⟩:=kh q;simp only[lP,e1,sp]at Pi;clear e1 pX;go_enter func208,ntmps208;go_wp2_with(first|(go_at_call 226;refine hd.out.mono ?_;rintro r w1 ⟨rfl,ai⟩;obtain⟨d0,d1,d2,d3,d4,d5,d6,d7⟩:=(g.out.below ai).bts;have ai:=aa ai)|(go_at_call 158;refine(Pi.out _ (g.out.below ai.out)).mono ?_;rintro r w2 ⟨rfl,aq⟩;have aq:=aa (ac ai.out aq)))
    go_ret3
    exact⟨rfl,by first|exact aq.out|exact ab aq.out⟩
 rw[if_neg hr];by_cases h1:at'<0
 ·go_enter func208,ntmps208
  go_wp2
  go_ret3
  exact⟨rfl,Below.refl _ _⟩
 have h2:(s.size:Int)<=at':=by omega
 have h3:(0:Int)<=at':=by omega
 clear hr;go_enter func208,ntmps208;go_wp2
 go_ret3
 exact⟨rfl,Below.refl _ _⟩
end Lx
