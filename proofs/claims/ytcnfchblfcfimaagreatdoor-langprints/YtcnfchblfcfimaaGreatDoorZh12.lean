import Derived.Test.YtcnfchblfcfimaaGreatDoorZh05
import Derived.Test.YtcnfchblfcfimaaGreatDoorZh07
set_option linter.all false
set_option maxHeartbeats 2000000
set_option maxRecDepth 100000
namespace Go.Proofs.YtcnfchblfcfimaaGreatDoor
open Proofs.Tryz RowKit
namespace Lx
theorem Ix(c:UInt8):(zG c).length<=6:=by unfold zG;(repeat' split)<;>simp
theorem nn(l:List UInt8):(qu l).length<=6*l.length:=by
 induction l with
 |nil=>simp[qu]
 |cons c l ih=>rw[Fp,List.length_append,List.length_cons];have:=Ix c;omega
theorem Fo(s:ByteArray)(k:Nat)(h:k<s.size):qu ((bl s).take (k+1))=qu ((bl s).take k)++zG s[k]:=by rw[List.take_succ_eq_append_getElem (by rw[bl_length];exact h),Iu,bH s k h];simp[qu]
theorem IF(a b c:ByteArray)(w:World)(h:a++b=c)(hs:a.size+b.size<=1000000):(Op.stringOp .add a b).run prog w=.ok (.string c) w:=by rw[<-h];exact run_string_add_sum w a b (by omega)
theorem ya(a b:List UInt8):aj a++aj b=aj (a++b):=by apply ByteArray.ext;simp[aj,ByteArray.data_append]
theorem nP{W:World}{B:Nat}{v:Value}{l:List UInt8}(h:dj W B v l):∃a c,v=.slice a l.length c:=by
 rcases h.2 with⟨rfl,h0⟩|⟨g,cap,cur,rfl,_⟩
 ·exact⟨none,0,by rw[h0]⟩
 exact⟨_,_,rfl⟩
theorem Ar(s:ByteArray)(w:World)(hs:s.size<=5000):Calls prog 130 #[.string s] w fun e w'=>e=.returned (.string (aj (rY (bl s))))/\Below w.heap.size w w':=by
 obtain⟨Z,hZ⟩:∃Z,aj (rY (bl s))=Z:=⟨_,rfl⟩
 rw[hZ];have HZ:=aa hZ;clear hZ;obtain⟨i0,hi,fY,gD,eR⟩:=info_parts ou;have hw:IntKind.i64.wrap ((s.size:Int)+2)=(s.size:Int)+2:=by rw[IntKind.wrap_i64];omega
 go_enter func130,ntmps130;go_wp2_with(refine wpList_make_own w rfl _ _ 94 rfl w.heap.size 5 i0 (.int .u8 0) 1 Tryz.underlying94 hi fY gD .i64 .i64 _ (s.size+2) rfl rfl (by simp) (by rw[eR];omega) (by unfold maxLen;omega) (Nat.le_refl _) ?_;refine ak.out ?_)
 refine ak.mk ?_;intro w1 qr jL;have O1:Hid (dj w1 w.heap.size (.slice (some ⟨w.heap.size,0,none⟩) 0 (s.size+2)) []):=qr;have B1:Hid (Below w.heap.size w w1):=(Below.refl _ w).grown jL (Nat.le_refl _) (fun k hk=>by cases hk);have hz:w.heap.size<=w1.heap.size:=B1.out.size;clear qr jL hi fY gD eR;have hn:=aa (cM w1 34 5);go_wp2_with(at_builtin;refine ak.out ?_)
 refine ak.mk ?_;refine bP rfl (.tmp 10) (.tmp 11) rfl w.heap.size _ [] rfl (O1.out.alloc _) ⟨w1.heap.size,0,none⟩ 1 1 [34] rfl rfl hn.out (by simp) (by simp;omega) ?_;intro v2 w2 nR aq eR;have O2:Hid (dj w2 w.heap.size v2 [34]):=nR.out;have B2:Hid (Below w.heap.size w w2):=(ab B1.out).trans aq.out;clear nR aq eR O1 B1 hn;go_wp2;go_loopw [3,15] (fun v i W=>∃(k:Nat),i=.int .i64 (k:Nat)/\k<=s.size/\Hid (dj W w.heap.size v (34::qu ((bl s).take k))/\Below w.heap.size w W)) (fun _ i _=>s.size-(intOf i).toNat)
 case atStart=>exact⟨0,rfl,Nat.zero_le _,by simpa [qu] using O2.out,B2.out⟩
 case round=>
  obtain⟨k,rfl,hk,H⟩:=hrel;have aL:Hid ((34::qu ((bl s).take k)).length<=31000):=by show _<=_;have h1:=nn ((bl s).take k);rw[List.length_take,bl_length]at h1;simp only[List.length_cons];omega
  obtain⟨hO,hB⟩:=H.out;have OR:=aa hO;have BR:=aa hB;have RQ:w.heap.size<=wr.heap.size:=hB.size;clear H hO hB O2 B2;by_cases Cc:k<s.size
  ·have bF:(k:Int)<(s.size:Int):=by omega
   have cb:=aa (Fo s k Cc);obtain⟨c,hc⟩:∃c,s[k]=c:=⟨_,rfl⟩
   rw[hc]at cb;by_cases hq:c.toNat=34\/c.toNat=92
   ·have he:zG c=[92,c]:=by unfold zG;rw[if_pos hq]
    rw[he]at cb;have hn:=aa (pN wr 92 c 5);have i92:(((92:UInt8).toNat:Nat):Int)=92:=rfl;by_cases Bh:c.toNat=34
    ·have i1:((c.toNat:Int)==34)=true:=by simp;omega
     clear hq he Bh;go_wp2_with(at_builtin;refine ak.out ?_)
     refine ak.mk ?_;refine bP rfl (.tmp 32) (.tmp 34) rfl w.heap.size _ _ rfl (OR.out.alloc _) ⟨wr.heap.size,0,none⟩ 2 2 [92,c] rfl rfl hn.out (by have:=aL.out;omega) (by simp;omega) ?_;intro v3 w3 lH ar mr;have O3:Hid (dj w3 w.heap.size v3 (34::qu ((bl s).take (k+1)))):=by show dj _ _ _ _;rw[cb.out];exact lH.out
     have B3:Hid (Below w.heap.size w w3):=(ab BR.out).trans ar.out;clear lH ar mr;go_wp2
     go_roundw
     case rel=>exact⟨k+1,by go_num,by omega,O3.out,B3.out⟩
     case measure=>simp[intOf];omega
    have i1:((c.toNat:Int)==34)=false:=by simp;omega
    have i2:((c.toNat:Int)==92)=true:=by simp;omega
    clear hq he Bh;go_wp2_with(at_builtin;refine ak.out ?_)
    refine ak.mk ?_;refine bP rfl (.tmp 32) (.tmp 34) rfl w.heap.size _ _ rfl (OR.out.alloc _) ⟨wr.heap.size,0,none⟩ 2 2 [92,c] rfl rfl hn.out (by have:=aL.out;omega) (by simp;omega) ?_;intro v3 w3 lH ar mr;have O3:Hid (dj w3 w.heap.size v3 (34::qu ((bl s).take (k+1)))):=by show dj _ _ _ _;rw[cb.out];exact lH.out
    have B3:Hid (Below w.heap.size w w3):=(ab BR.out).trans ar.out;clear lH ar mr;go_wp2
    go_roundw
    case rel=>exact⟨k+1,by go_num,by omega,O3.out,B3.out⟩
    case measure=>simp[intOf];omega
   have i1:((c.toNat:Int)==34)=false:=by simp;omega
   have i2:((c.toNat:Int)==92)=false:=by simp;omega
   by_cases Mx:c.toNat<32
   ·have i3:(c.toNat:Int)<32:=by omega
    have he:zG c=[92,117,48,48,Nh (c.toNat/16),Nh (c.toNat%16)]:=by unfold zG;rw[if_neg hq,if_pos Mx]
    rw[he]at cb;have qK:(k:Int)+1<=(s.size:Int):=by omega
    have Wh:¬((k:Int)+1<(k:Int)):=by omega
    obtain⟨t,ht⟩:∃t,s.extract k (k+1)=t:=⟨_,rfl⟩
    have mu:bl t=[c]:=by rw[<-ht,aH,ah,show k+1-k=1 by omega,List.drop_eq_getElem_cons (by rw[bl_length];exact Cc),bH s k Cc,hc];rfl
    have lG:t.size=1:=by rw[<-bl_length,mu];rfl
    have hh:=aa (Ed t wr (by omega));rw[mu]at hh;have lu:=aa (ya [92,117,48,48] (mb [c]));obtain⟨X,hX⟩:∃X,aj (mb [c])=X:=⟨_,rfl⟩
    obtain⟨Y,hY⟩:∃Y,aj ([92,117,48,48]++mb [c])=Y:=⟨_,rfl⟩
    have Uz:X.size=2:=by rw[<-hX,ag];rfl
    have WQ:Hid (Y.size=6):=by show _=_;rw[<-hY,ag];rfl
    have WR:Hid (bl Y=[92,117,48,48,Nh (c.toNat/16),Nh (c.toNat%16)]):=by show _=_;rw[<-hY,ah];rfl
    rw[hX]at hh lu;rw[hY]at lu;have qH:∀w,(Op.stringOp .add ⟨#[92,117,48,48]⟩ X).run prog w=.ok (.string Y) w:=fun w=>IF _ _ _ w lu.out (by rw[Uz];decide);clear hq he Mx mu lG hX hY Uz lu;go_wp2_with(first|(go_at_call 159;refine hh.out.mono ?_;rintro e w3 ⟨rfl,ar⟩;have O2:=aa (gJ OR.out ar);have B2:=aa (ac BR.out ar);clear ar)|(at_builtin;refine ak.out ?_))
    refine ak.mk ?_;refine fP rfl (.tmp 39) (.tmp 46) rfl w.heap.size _ _ rfl O2.out Y rfl (by have:=aL.out;have:=WQ.out;omega) B2.out.size ?_;intro v3 w4 lH ar mr;have O3:Hid (dj w4 w.heap.size v3 (34::qu ((bl s).take (k+1)))):=by show dj _ _ _ _;rw[cb.out];have:=lH.out;rw[WR.out]at this;exact this
    have B3:Hid (Below w.heap.size w w4):=B2.out.trans ar.out;clear lH ar mr;go_wp2
    go_roundw
    case rel=>exact⟨k+1,by go_num,by omega,O3.out,B3.out⟩
    case measure=>simp[intOf];omega
   have i3:¬(c.toNat:Int)<32:=by omega
   have he:zG c=[c]:=by unfold zG;rw[if_neg hq,if_neg Mx]
   rw[he]at cb;have hn:=aa (cM wr c 5);clear hq he Mx;go_wp2_with(at_builtin;refine ak.out ?_)
   refine ak.mk ?_;refine bP rfl (.tmp 21) (.tmp 23) rfl w.heap.size _ _ rfl (OR.out.alloc _) ⟨wr.heap.size,0,none⟩ 1 1 [c] rfl rfl hn.out (by have:=aL.out;omega) (by simp;omega) ?_;intro v3 w3 lH ar mr;have O3:Hid (dj w3 w.heap.size v3 (34::qu ((bl s).take (k+1)))):=by show dj _ _ _ _;rw[cb.out];exact lH.out
   have B3:Hid (Below w.heap.size w w3):=(ab BR.out).trans ar.out;clear lH ar mr;go_wp2
   go_roundw
   case rel=>exact⟨k+1,by go_num,by omega,O3.out,B3.out⟩
   case measure=>simp[intOf];omega
  have bF:¬(k:Int)<(s.size:Int):=by omega
  have WO:Hid (aj (34::qu ((bl s).take k)++[34])=Z):=by show _=_;rw[<-HZ.out,List.take_of_length_le (by rw[bl_length];omega)];rfl
  have hn:=aa (cM wr 34 5);go_wp2_with(at_builtin;refine ak.out ?_)
  refine ak.mk ?_;refine bP rfl (.tmp 49) (.tmp 50) rfl w.heap.size _ _ rfl (OR.out.alloc _) ⟨wr.heap.size,0,none⟩ 1 1 [34] rfl rfl hn.out (by have:=aL.out;omega) (by simp;omega) ?_;intro v3 w3 lH ar mr;have ln:=cJ lH.out;rw[WO.out]at ln;have B3:Hid (Below w.heap.size w w3):=(ab BR.out).trans ar.out;clear lH ar mr;go_wp2;go_ret;exact⟨rfl,B3.out⟩
end Lx
