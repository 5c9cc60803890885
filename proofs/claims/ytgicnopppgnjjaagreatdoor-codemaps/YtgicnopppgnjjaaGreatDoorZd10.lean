/- Merged by program: AnQuote. -/
import Derived.Test.YtgicnopppgnjjaaGreatDoorZd06
import Derived.Test.YtgicnopppgnjjaaGreatDoorZd04
set_option linter.unusedSimpArgs false
set_option linter.unusedVariables false
namespace Go.Proofs.YtgicnopppgnjjaaGreatDoor
namespace Lx
open Go.RowKit
theorem esB_len (c:UInt8):(esB c).length≤6:=by unfold esB;(repeat' split) <;> simp
theorem esc_len (l:List UInt8):(esc l).length≤6 * l.length:=by
 induction l with
 | nil=>simp [esc]
 | cons c l ih=>rw [esc_cons,List.length_append,List.length_cons];have:=esB_len c;omega
theorem esc_take (s:ByteArray) (k:Nat) (h:k<s.size):esc ((bl s).take (k + 1))=esc ((bl s).take k)++esB s[k]:=by
 rw [List.take_succ_eq_append_getElem (by rw [bl_length];exact h),esc_app,bl_get s k h]
 simp [esc]
theorem cat_run (a b c:ByteArray) (w:World) (h:a++b=c) (hs:a.size + b.size≤1000000):(Op.stringOp .add a b).run Tryz.prog w=.ok (.string c) w:=by
 rw [←h];exact run_string_add_sum w a b (by omega)
theorem append_mkB (a b:List UInt8):mkB a++mkB b=mkB (a++b):=by
 apply ByteArray.ext
 simp [mkB,ByteArray.data_append]
theorem own_shape {W:World} {B:Nat} {v:Value} {l:List UInt8} (h:Own W B v l):∃ a c,v=.slice a l.length c:=by
 rcases h.2 with ⟨rfl,h0⟩|⟨g,cap,cur,rfl,_⟩
 ·exact ⟨none,0,by rw [h0]⟩
 ·exact ⟨_,_,rfl⟩
set_option maxHeartbeats 2000000 in
set_option maxRecDepth 100000 in
theorem quote_any (s:ByteArray) (w:World) (hs:s.size≤5000):Calls Tryz.prog 153 #[.string s] w fun e w'=>e=.returned (.string (mkB (quo (bl s))))∧Below w.heap.size w w':=by
 obtain ⟨Z,hZ⟩:∃ Z,mkB (quo (bl s))=Z:=⟨_,rfl⟩
 rw [hZ]
 have HZ:=hide hZ
 clear hZ
 obtain ⟨i0,hi,hz0,hz1,hz2⟩:=info_parts info5
 have hw:IntKind.i64.wrap ((s.size:Int) + 2)=(s.size:Int) + 2:=by rw [IntKind.wrap_i64];omega
 go_enter Tryz.func153, Tryz.ntmps153
 go_wp2_with (refine wpList_make_own w rfl _ _ 124 rfl w.heap.size 5 i0 (.int .u8 0) 1 Tryz.underlying124 hi hz0 hz1 .i64 .i64 _ (s.size + 2) rfl rfl (by simp) (by rw [hz2];omega) (by unfold maxLen;omega) (Nat.le_refl _) ?_;refine Sto.out ?_)
 refine Sto.mk ?_
 intro w1 ho1 hg1
 have O1:Hid (Own w1 w.heap.size (.slice (some ⟨w.heap.size,0,none⟩) 0 (s.size + 2)) []):=ho1
 have B1:Hid (Below w.heap.size w w1):=(Below.refl _ w).grown hg1 (Nat.le_refl _) (fun k hk=>by cases hk)
 have hz:w.heap.size≤w1.heap.size:=B1.out.size
 clear ho1 hg1 hi hz0 hz1 hz2
 have hn:=hide (news_one w1 34 5)
 go_wp2_with (at_builtin;refine Sto.out ?_)
 refine Sto.mk ?_
 refine app_bytes rfl (.tmp 10) (.tmp 11) rfl w.heap.size _ [] rfl (O1.out.alloc _) ⟨w1.heap.size,0,none⟩ 1 1 [34] rfl rfl hn.out (by simp) (by simp;omega) ?_
 intro v2 w2 ho2 hb2 hz2
 have O2:Hid (Own w2 w.heap.size v2 [34]):=ho2.out
 have B2:Hid (Below w.heap.size w w2):=(below_al B1.out).trans hb2.out
 clear ho2 hb2 hz2 O1 B1 hn
 go_wp2
 go_loopw [3,15] (fun v i W=>∃ (k:Nat),i=.int .i64 (k:Nat)∧k≤s.size∧Hid (Own W w.heap.size v (34 :: esc ((bl s).take k))∧Below w.heap.size w W)) (fun _ i _=>s.size - (intOf i).toNat)
 case atStart=>exact ⟨0,rfl,Nat.zero_le _,by simpa [esc] using O2.out,B2.out⟩
 case round =>
  obtain ⟨k,rfl,hk,H⟩:=hrel
  have hlen:Hid ((34 :: esc ((bl s).take k)).length≤31000):=by
   show _≤_
   have h1:=esc_len ((bl s).take k)
   rw [List.length_take,bl_length] at h1
   simp only [List.length_cons]
   omega
  obtain ⟨hO,hB⟩:=H.out
  have OR:=hide hO
  have BR:=hide hB
  have hzr:w.heap.size≤wr.heap.size:=hB.size
  clear H hO hB O2 B2
  by_cases hks:k<s.size
  ·have hki:(k:Int)<(s.size:Int):=by omega
   have hst:=hide (esc_take s k hks)
   obtain ⟨c,hc⟩:∃ c,s[k]=c:=⟨_,rfl⟩
   rw [hc] at hst
   by_cases hq:c.toNat=34∨c.toNat=92
   ·have he:esB c=[92,c]:=by unfold esB;rw [if_pos hq]
    rw [he] at hst
    have hn:=hide (news_two wr 92 c 5)
    have i92:(((92:UInt8).toNat:Nat):Int)=92:=rfl
    by_cases h34:c.toNat=34
    ·have i1:((c.toNat:Int)==34)=true:=by simp;omega
     clear hq he h34
     go_wp2_with (at_builtin;refine Sto.out ?_)
     refine Sto.mk ?_
     refine app_bytes rfl (.tmp 32) (.tmp 34) rfl w.heap.size _ _ rfl (OR.out.alloc _) ⟨wr.heap.size,0,none⟩ 2 2 [92,c] rfl rfl hn.out (by have:=hlen.out;omega) (by simp;omega) ?_
     intro v3 w3 ho3 hb3 hz3
     have O3:Hid (Own w3 w.heap.size v3 (34 :: esc ((bl s).take (k + 1)))):=by show Own _ _ _ _;rw [hst.out];exact ho3.out
     have B3:Hid (Below w.heap.size w w3):=(below_al BR.out).trans hb3.out
     clear ho3 hb3 hz3
     go_wp2
     go_roundw
     case rel=>exact ⟨k + 1,by go_num,by omega,O3.out,B3.out⟩
     case measure=>simp [intOf];omega
    ·have i1:((c.toNat:Int)==34)=false:=by simp;omega
     have i2:((c.toNat:Int)==92)=true:=by simp;omega
     clear hq he h34
     go_wp2_with (at_builtin;refine Sto.out ?_)
     refine Sto.mk ?_
     refine app_bytes rfl (.tmp 32) (.tmp 34) rfl w.heap.size _ _ rfl (OR.out.alloc _) ⟨wr.heap.size,0,none⟩ 2 2 [92,c] rfl rfl hn.out (by have:=hlen.out;omega) (by simp;omega) ?_
     intro v3 w3 ho3 hb3 hz3
     have O3:Hid (Own w3 w.heap.size v3 (34 :: esc ((bl s).take (k + 1)))):=by show Own _ _ _ _;rw [hst.out];exact ho3.out
     have B3:Hid (Below w.heap.size w w3):=(below_al BR.out).trans hb3.out
     clear ho3 hb3 hz3
     go_wp2
     go_roundw
     case rel=>exact ⟨k + 1,by go_num,by omega,O3.out,B3.out⟩
     case measure=>simp [intOf];omega
   ·have i1:((c.toNat:Int)==34)=false:=by simp;omega
    have i2:((c.toNat:Int)==92)=false:=by simp;omega
    by_cases h32:c.toNat<32
    ·have i3:(c.toNat:Int)<32:=by omega
     have he:esB c=[92,117,48,48,hxd (c.toNat / 16),hxd (c.toNat % 16)]:=by unfold esB;rw [if_neg hq,if_pos h32]
     rw [he] at hst
     have hki2:(k:Int) + 1≤(s.size:Int):=by omega
     have hki3:¬ ((k:Int) + 1<(k:Int)):=by omega
     obtain ⟨t,ht⟩:∃ t,s.extract k (k + 1)=t:=⟨_,rfl⟩
     have htb:bl t=[c]:=by
      rw [←ht,extract_mkB,bl_mkB,show k + 1 - k=1 by omega,List.drop_eq_getElem_cons (by rw [bl_length];exact hks),bl_get s k hks,hc]
      rfl
     have hts:t.size=1:=by rw [←bl_length,htb];rfl
     have hh:=hide (jhex_any t wr (by omega))
     rw [htb] at hh
     have hcat:=hide (append_mkB [92,117,48,48] (hexL [c]))
     obtain ⟨X,hX⟩:∃ X,mkB (hexL [c])=X:=⟨_,rfl⟩
     obtain ⟨Y,hY⟩:∃ Y,mkB ([92,117,48,48]++hexL [c])=Y:=⟨_,rfl⟩
     have hXs:X.size=2:=by rw [←hX,mkB_size];rfl
     have hYs:Hid (Y.size=6):=by show _=_;rw [←hY,mkB_size];rfl
     have hYb:Hid (bl Y=[92,117,48,48,hxd (c.toNat / 16),hxd (c.toNat % 16)]):=by show _=_;rw [←hY,bl_mkB];rfl
     rw [hX] at hh hcat
     rw [hY] at hcat
     have hrun:∀ w,(Op.stringOp .add ⟨#[92,117,48,48]⟩ X).run Tryz.prog w=.ok (.string Y) w:=fun w=>cat_run _ _ _ w hcat.out (by rw [hXs];decide)
     clear hq he h32 htb hts hX hY hXs hcat
     go_wp2_with (first|(go_at_call 182;refine hh.out.mono ?_;rintro e w3 ⟨rfl,hb3⟩;have O2:=hide (own_keep OR.out hb3);have B2:=hide (below_then BR.out hb3);clear hb3)|(at_builtin;refine Sto.out ?_))
     refine Sto.mk ?_
     refine app_str rfl (.tmp 39) (.tmp 46) rfl w.heap.size _ _ rfl O2.out Y rfl (by have:=hlen.out;have:=hYs.out;omega) B2.out.size ?_
     intro v3 w4 ho3 hb3 hz3
     have O3:Hid (Own w4 w.heap.size v3 (34 :: esc ((bl s).take (k + 1)))):=by show Own _ _ _ _;rw [hst.out];have:=ho3.out;rw [hYb.out] at this;exact this
     have B3:Hid (Below w.heap.size w w4):=B2.out.trans hb3.out
     clear ho3 hb3 hz3
     go_wp2
     go_roundw
     case rel=>exact ⟨k + 1,by go_num,by omega,O3.out,B3.out⟩
     case measure=>simp [intOf];omega
    ·have i3:¬ (c.toNat:Int)<32:=by omega
     have he:esB c=[c]:=by unfold esB;rw [if_neg hq,if_neg h32]
     rw [he] at hst
     have hn:=hide (news_one wr c 5)
     clear hq he h32
     go_wp2_with (at_builtin;refine Sto.out ?_)
     refine Sto.mk ?_
     refine app_bytes rfl (.tmp 21) (.tmp 23) rfl w.heap.size _ _ rfl (OR.out.alloc _) ⟨wr.heap.size,0,none⟩ 1 1 [c] rfl rfl hn.out (by have:=hlen.out;omega) (by simp;omega) ?_
     intro v3 w3 ho3 hb3 hz3
     have O3:Hid (Own w3 w.heap.size v3 (34 :: esc ((bl s).take (k + 1)))):=by show Own _ _ _ _;rw [hst.out];exact ho3.out
     have B3:Hid (Below w.heap.size w w3):=(below_al BR.out).trans hb3.out
     clear ho3 hb3 hz3
     go_wp2
     go_roundw
     case rel=>exact ⟨k + 1,by go_num,by omega,O3.out,B3.out⟩
     case measure=>simp [intOf];omega
  ·have hki:¬ (k:Int)<(s.size:Int):=by omega
   have hZ2:Hid (mkB (34 :: esc ((bl s).take k)++[34])=Z):=by
    show _=_
    rw [←HZ.out,List.take_of_length_le (by rw [bl_length];omega)]
    rfl
   have hn:=hide (news_one wr 34 5)
   go_wp2_with (at_builtin;refine Sto.out ?_)
   refine Sto.mk ?_
   refine app_bytes rfl (.tmp 49) (.tmp 50) rfl w.heap.size _ _ rfl (OR.out.alloc _) ⟨wr.heap.size,0,none⟩ 1 1 [34] rfl rfl hn.out (by have:=hlen.out;omega) (by simp;omega) ?_
   intro v3 w3 ho3 hb3 hz3
   have hcv:=own_conv ho3.out
   rw [hZ2.out] at hcv
   have B3:Hid (Below w.heap.size w w3):=(below_al BR.out).trans hb3.out
   clear ho3 hb3 hz3
   go_wp2
   go_ret
   exact ⟨rfl,B3.out⟩
end Lx
end Go.Proofs.YtgicnopppgnjjaaGreatDoor
