/- Merged by program: JcHex, JdText, MaRef, MbRef, McRef, JeFhex, MdRef. -/
import Derived.Test.YtpimjkdakjhoaaaGreatDoorZw02
namespace Go.Proofs.YtpimjkdakjhoaaaGreatDoor
open Go.RowKit
set_option linter.unusedSimpArgs false
set_option linter.unusedVariables false
set_option maxHeartbeats 8000000
set_option maxRecDepth 100000 in
theorem jhex_any (s:ByteArray) (w:World) (hs:s.size≤40000) :
  Calls Tryz.prog 47 #[.string s] w fun e w'=>e=.returned (.string (mkB (hexL (bl s))))∧Below w.heap.size w w':=by
 have hw:IntKind.i64.wrap (2 * (s.size:Int))=2 * (s.size:Int):=by rw [IntKind.wrap_i64] <;> omega
 obtain ⟨i0,hi,hz0,hz1,hz2⟩:=info_parts info5
 go_enter Tryz.func47, Tryz.ntmps47
 go_wp2_with (refine wpList_make_own w rfl _ _ 32 rfl w.heap.size 5 i0 (.int .u8 0) 1 Tryz.underlying32 hi hz0 hz1 .i64 .i64 _ (2 * s.size) rfl rfl (by simp) (by rw [hz2];omega) (by unfold maxLen;omega) (Nat.le_refl _) ?_;refine Sto.out ?_)
 refine Sto.mk ?_
 intro w1 ho1 hg1
 have O1:Hid (Own w1 w.heap.size (.slice (some ⟨w.heap.size,0,none⟩) 0 (2 * s.size)) []):=ho1
 have B1:Hid (Below w.heap.size w w1):=(Below.refl _ w).grown hg1 (Nat.le_refl _) (fun k hk=>by cases hk)
 clear ho1 hg1 hi hz0 hz1 hz2
 go_wp2_with fail
 go_loopw [3,11] (fun b i W=>∃ (k:Nat) (a:Option Addr) (cp:Nat),i=.int .i64 k∧b=.slice a (2 * k) cp∧k≤s.size∧Hid (Own W w.heap.size (.slice a (2 * k) cp) (hexL ((bl s).take k))∧Below w.heap.size w W)) (fun _ i _=>s.size - (intOf i).toNat)
 case atStart=>exact ⟨0,_,_,rfl,rfl,Nat.zero_le _,hide ⟨by simpa [hexL] using O1.out,B1.out⟩⟩
 case round =>
  obtain ⟨k,a,cp,rfl,rfl,hk,HH⟩:=hrel
  obtain ⟨hO,hB⟩:=HH.out
  have OR:=hide hO
  have BR:=hide hB
  clear HH hO hB O1 B1
  have zr1:w.heap.size≤wr.heap.size:=BR.out.size
  by_cases hkl:k<s.size
  ·have hki:(k:Int)<(s.size:Int):=by omega
   have hst:=hide (show hexL ((bl s).take (k + 1))=hexL ((bl s).take k)++[hx (s[k].toNat / 16),hx (s[k].toNat % 16)] by
    rw [List.take_succ_eq_append_getElem (by rw [bl_length];exact hkl),hexL_snoc,bl_get s k hkl])
   have hlen:(hexL ((bl s).take k)).length=2 * k:=by rw [hexL_len,List.length_take,bl_length];omega
   obtain ⟨c,hc⟩:∃ c,s[k]=c:=⟨_,rfl⟩
   have hcl:c.toNat<256:=c.toNat_lt
   have hm:bits .and .u8 (c.toNat:Int) 15=((c.toNat % 16:Nat):Int):=by
    have:=u8_and_nat c.toNat 15 hcl (by omega)
    rw [nat_mask4] at this
    exact this
   have hd1:c.toNat / 16<16:=by omega
   have hd2:c.toNat % 16<16:=by omega
   have hds1:c.toNat / 16<(⟨#[48,49,50,51,52,53,54,55,56,57,97,98,99,100,101,102]⟩:ByteArray).size:=hd1
   have hds2:c.toNat % 16<(⟨#[48,49,50,51,52,53,54,55,56,57,97,98,99,100,101,102]⟩:ByteArray).size:=hd2
   have hg1:=hxd_get (c.toNat / 16) hd1 hds1
   have hg2:=hxd_get (c.toNat % 16) hd2 hds2
   rw [hc] at hst
   have hlen':=hide hlen
   clear hlen
   have hn:=hide (news_two wr (hx (c.toNat / 16)) (hx (c.toNat % 16)) 5)
   have hq1:((c.toNat:Int) / 16).toNat=c.toNat / 16:=by omega
   have hq2:(0:Int)≤(c.toNat:Int) / 16:=by omega
   have hq3:(c.toNat:Int) / 16<16:=by omega
   have hq4:((c.toNat:Int) % 16).toNat=c.toNat % 16:=by omega
   have hq5:(0:Int)≤(c.toNat:Int) % 16:=by omega
   have hq6:(c.toNat:Int) % 16<16:=by omega
   go_wp2_with fail
   go_region_law (refine step_bytes rfl (.tmp 14) (.tmp 25) rfl w.heap.size (.slice a (2 * k) cp) (hexL ((bl s).take k)) rfl (ownsRow_of OR.out fun g hg hlt=>(show Below wr.heap.size wr _ by repeat (first|exact Below.refl _ _|refine Below.drew ?_|refine below_al ?_)).block g hlt) ⟨wr.heap.size,0,none⟩ 2 2 [hx (c.toNat / 16),hx (c.toNat % 16)] rfl rfl hn.out (by rw [hlen'.out];omega) (by simp;omega) (by omega) ?_;intro av c' w' ho hb hz;have hO':=hide ho.out;have hB':Hid (Below w.heap.size w w'):=(BR.out.trans ((show Below wr.heap.size wr _ by repeat (first|exact Below.refl _ _|refine Below.drew ?_|refine below_al ?_)).mono zr1)).trans hb.out;clear ho hb)
   all_goals
    go_wp2_with fail
    refine ⟨⟨k + 1,av,c',by go_num,by rw [hlen'.out];rfl,hkl,hide ⟨?_,hB'.out⟩⟩,by simp [intOf];omega⟩
    rw [hst.out]
    have h1:=hO'.out
    rw [hlen'.out] at h1
    exact h1
  ·have hki:¬ ((k:Int)<(s.size:Int)):=by omega
   have hke:k=s.size:=by omega
   have hcv:=own_conv OR.out
   rw [List.take_of_length_le (by rw [bl_length];omega)] at hcv
   clear hkl hke
   go_wp2_with fail
   go_ret
   exact ⟨rfl,BR.out⟩
def escB (c:UInt8):List UInt8:=if c=34∨c=92 then [92,c] else if c.toNat<32 then [92,117,48,48,hx (c.toNat / 16),hx (c.toNat % 16)] else [c]
def escL (l:List UInt8):List UInt8:=l.flatMap escB
def quo (l:List UInt8):List UInt8:=34 :: (escL l++[34])
theorem escL_snoc (l:List UInt8) (c:UInt8):escL (l++[c])=escL l++escB c:=by simp [escL]
theorem escL_app (a b:List UInt8):escL (a++b)=escL a++escL b:=by simp [escL]
theorem bless (c:UInt8):Op.bytesLess [c] [32]=decide (c.toNat<32):=by
 simp [Op.bytesLess,UInt8.lt_iff_toNat_lt]
theorem WO.trans {i:Nat} {A T U:List UInt8} {W w1 w2:World} {e:Ending} (h1:FW i W w1) (hA:A.length + T.length≤65536) (h2:WO i (A++T) U w1 e w2):WO i A (T++U) W e w2:=by
 obtain ⟨hb,h⟩:=h2
 refine ⟨h1.trans hb,?_⟩
 rcases h with ⟨q1,q2,q3⟩|⟨q1,q2⟩
 ·exact Or.inl ⟨by simp at q1 ⊢;omega,q2,by simpa using q3⟩
 ·exact Or.inr ⟨by simp at q1 ⊢;omega,q2⟩
theorem WO.fail {i:Nat} {A T U:List UInt8} {W w1:World} (h1:FW i W w1) (h:65536<A.length + T.length):WO i A (T++U) W (.panicked (pan 2)) w1:=⟨h1,Or.inr ⟨by simp;omega,rfl⟩⟩
theorem byte_str (s:ByteArray) (k:Nat) (h:k<s.size):s.extract k (k + 1)=mkB [s[k]]:=by
 apply ByteArray.ext
 simp [mkB,ByteArray.data_extract]
 apply Array.ext
 ·simp;omega
 ·intro i h1 h2
  simp at h1 h2
  have:i=0:=by omega
  subst this
  simp
  rfl
theorem jcat_run (a b c:ByteArray) (w:World) (h:a++b=c) (hs:a.size + b.size≤100000):(Op.stringOp .add a b).run Tryz.prog w=.ok (.string c) w:=by
 rw [←h];exact run_string_add_sum w a b (by omega)
theorem WB.below {W W1:World} {i:Nat} {A:List UInt8} (h:WB W i A) (hb:Below W.heap.size W W1):WB W1 i A:=by
 have hlt:=h.lt
 obtain ⟨v,h1,h2⟩:=h
 exact ⟨v,(hb.block i hlt).trans h1,ownsRow_of h2 fun g _ hg=>hb.block g hg⟩
set_option maxRecDepth 100000 in
theorem text_any (s:ByteArray) (A:List UInt8) (W:World) (i:Nat) (h:WB W i A) (hA:A.length≤65536) (hs:s.size≤281474976710656) :
  Calls Tryz.prog 46 #[.pointer (some ⟨i,0,none⟩),.string s] W fun e w'=>WO i A (quo (bl s)) W e w':=by
 have hp:=hide (fun s A W (h:WB W i A) (hA:A.length≤65536) (hs:s.size≤281474976710656)=>put_any s A W i h hA hs)
 have hq:=hide (show quo (bl s)=[34]++(escL (bl s)++[34]) from rfl)
 have h':=hide h
 have hA':=hide hA
 clear h hA
 go_enter Tryz.func46, Tryz.ntmps46
 go_wp2_with (go_at_call 41;refine Sto.out ?_)
 refine Sto.mk ((hp.out _ A W h'.out hA'.out (by decide)).mono ?_)
 rintro e w1 ⟨hb1,⟨q1,rfl,hW1⟩|⟨q1,rfl⟩⟩
 ·have B1:=hide hb1
  have W1:Hid (WB w1 i (A++[34])):=hW1
  have Q1:Hid (A.length + 1≤65536):=q1
  clear hb1 hW1 q1
  go_wp2_with fail
  go_loopw [10] (fun j wr=>∃ k:Nat,j=.int .i64 k∧k≤s.size∧Hid (FW i W wr∧WB wr i (A++[34]++escL ((bl s).take k))∧(A++[34]++escL ((bl s).take k)).length≤65536)) (fun j _=>s.size - (intOf j).toNat)
  case atStart=>exact ⟨0,rfl,Nat.zero_le _,hide ⟨B1.out,by simpa [escL] using W1.out,by simpa [escL] using Q1.out⟩⟩
  case round =>
   obtain ⟨k,rfl,hk,HH⟩:=hrel
   obtain ⟨hB,hW,hL⟩:=HH.out
   have BR:=hide hB
   have WR:=hide hW
   have LR:=hide hL
   clear HH hB hW hL B1 W1 Q1
   by_cases hkl:k<s.size
   ·have hki:(k:Int)<(s.size:Int):=by omega
    have hk63:(k:Int)<9223372036854775807:=by omega
    have hk1:(k:Int) + 1≤(s.size:Int):=by omega
    obtain ⟨c,hc⟩:∃ c,s[k]=c:=⟨_,rfl⟩
    have hex:=byte_str s k hkl
    rw [hc] at hex
    obtain ⟨S1,hS1⟩:∃ S1,mkB [c]=S1:=⟨_,rfl⟩
    rw [hS1] at hex
    have hS1':=hide hS1
    have hst:=hide (show escL ((bl s).take (k + 1))=escL ((bl s).take k)++escB c by rw [List.take_succ_eq_append_getElem (by rw [bl_length];exact hkl),escL_snoc,bl_get s k hkl,hc])
    clear hS1
    have hT:S1.toList=[c]:=by rw [←hS1'.out,ByteArray.toList_eq];rfl
    have hfin:Hid (∀ (w1:World) (e:Ending) (w2:World) (T:List UInt8),escB c=T→FW i wr w1→WO i (A++[34]++escL ((bl s).take k)) T w1 e w2→(e=.returned (.tuple #[])∧FW i W w2∧WB w2 i (A++[34]++escL ((bl s).take (k + 1)))∧(A++[34]++escL ((bl s).take (k + 1))).length≤65536)∨(e=.panicked (pan 2)∧WO i A (quo (bl s)) W (.panicked (pan 2)) w2)):=by
     intro w1 e w2 T hT hb1 hw
     obtain ⟨hb2,hh⟩:=hw
     have hb3:=(BR.out.trans hb1).trans hb2
     rcases hh with ⟨q1,q2,q3⟩|⟨q1,q2⟩
     ·refine Or.inl ⟨q2,hb3,?_,?_⟩
      ·rw [hst.out,hT,←List.append_assoc];exact q3
      ·rw [hst.out,hT,←List.append_assoc,List.length_append];exact q1
     ·refine Or.inr ⟨q2,hb3,Or.inr ⟨?_,rfl⟩⟩
      have hpre:(escL ((bl s).take (k + 1))).length≤(escL (bl s)).length:=by
       have h1:=List.take_append_drop (k + 1) (bl s)
       have h2:escL (bl s)=escL ((bl s).take (k + 1))++escL ((bl s).drop (k + 1)):=by rw [←escL_app,h1]
       rw [h2,List.length_append];omega
      rw [hst.out,hT,List.length_append] at hpre
      unfold quo
      simp at q1 ⊢
      omega
    by_cases h34:c=34∨c=92
    ·have hE:=hide (show escB c=[92,c] from if_pos h34)
     obtain ⟨S2,hS2⟩:∃ S2,mkB [92,c]=S2:=⟨_,rfl⟩
     have hb2:=hide (show bl S2=[92,c] by rw [←hS2];rfl)
     have hz2:=hide (show S2.size≤281474976710656 by rw [←bl_length,hb2.out];simp)
     have hadd:∀ w,(Op.stringOp .add ⟨#[92]⟩ S1).run Tryz.prog w=.ok (.string S2) w:=fun w=>by
      have:(⟨#[92]⟩:ByteArray)++S1=S2:=by rw [←hS1'.out,←hS2];apply ByteArray.ext;simp [mkB]
      exact jcat_run _ _ _ w this (by rw [←hS1'.out];show 1 + 1≤_;omega)
     clear hS2
     rcases h34 with e34|e92
     ·have d34:(c==34)=true:=by simpa using e34
      have hc':=hide e34
      subst e34
      go_wp2_with (go_at_call 41;refine Sto.out ?_)
      refine Sto.mk ((hp.out S2 _ wr WR.out LR.out hz2.out).mono ?_)
      rintro e w2 hw2
      rw [hb2.out] at hw2
      rcases hfin.out wr e w2 _ hE.out (FW.refl _ _) hw2 with ⟨rfl,g1,g2,g3⟩|⟨rfl,g1⟩
      ·have G:=hide (And.intro g1 (And.intro g2 g3))
       clear g1 g2 g3 hw2
       go_wp2_with fail
       exact ⟨⟨k + 1,by go_num,hkl,G⟩,by simp [intOf];omega⟩
      ·have G:=hide g1
       clear g1 hw2
       go_wp2_with fail
       exact ⟨rfl,G.out⟩
     ·have n34:¬ c=34:=by rw [e92];decide
      have hc':=hide e92
      subst e92
      go_wp2_with (go_at_call 41;refine Sto.out ?_)
      refine Sto.mk ((hp.out S2 _ wr WR.out LR.out hz2.out).mono ?_)
      rintro e w2 hw2
      rw [hb2.out] at hw2
      rcases hfin.out wr e w2 _ hE.out (FW.refl _ _) hw2 with ⟨rfl,g1,g2,g3⟩|⟨rfl,g1⟩
      ·have G:=hide (And.intro g1 (And.intro g2 g3))
       clear g1 g2 g3 hw2
       go_wp2_with fail
       exact ⟨⟨k + 1,by go_num,hkl,G⟩,by simp [intOf];omega⟩
      ·have G:=hide g1
       clear g1 hw2
       go_wp2_with fail
       exact ⟨rfl,G.out⟩
    ·have n34:¬ c=34:=fun q=>h34 (Or.inl q)
     have n92:¬ c=92:=fun q=>h34 (Or.inr q)
     have m34:(c==34)=false:=by simpa using n34
     have m92:(c==92)=false:=by simpa using n92
     have o34:([c]==([34]:List UInt8))=false:=by simpa using n34
     have o92:([c]==([92]:List UInt8))=false:=by simpa using n92
     by_cases h32:c.toNat<32
     ·have hE:=hide (show escB c=[92,117,48,48,hx (c.toNat / 16),hx (c.toNat % 16)] by unfold escB;rw [if_neg h34,if_pos h32])
      have hlt:Op.bytesLess [c] [32]=true:=by rw [bless];exact decide_eq_true h32
      have h32':=hide h32
      clear h32
      have jh:=hide (fun w=>jhex_any S1 w (by rw [←hS1'.out];show 1≤_;omega))
      have hb1:=hide (show hexL (bl S1)=[hx (c.toNat / 16),hx (c.toNat % 16)] by rw [←hS1'.out];rfl)
      rw [hb1.out] at jh
      obtain ⟨S3,hS3⟩:∃ S3,mkB [hx (c.toNat / 16),hx (c.toNat % 16)]=S3:=⟨_,rfl⟩
      rw [hS3] at jh
      obtain ⟨S2,hS2⟩:∃ S2,mkB [92,117,48,48,hx (c.toNat / 16),hx (c.toNat % 16)]=S2:=⟨_,rfl⟩
      have hb2:=hide (show bl S2=[92,117,48,48,hx (c.toNat / 16),hx (c.toNat % 16)] by rw [←hS2];rfl)
      have hz2:=hide (show S2.size≤281474976710656 by rw [←bl_length,hb2.out];simp)
      have hadd:∀ w,(Op.stringOp .add ⟨#[92,117,48,48]⟩ S3).run Tryz.prog w=.ok (.string S2) w:=fun w=>by
       have:(⟨#[92,117,48,48]⟩:ByteArray)++S3=S2:=by rw [←hS3,←hS2];apply ByteArray.ext;simp [mkB]
       exact jcat_run _ _ _ w this (by rw [←hS3];show 4 + 2≤_;omega)
      clear hS2 hS3 h34
      go_wp2_with (go_at_call 47;refine Sto.out ?_)
      refine Sto.mk ((jh.out _).mono ?_)
      rintro e w5 ⟨rfl,hb5⟩
      have B5:Hid (FW i wr w5):=FW.of hb5 WR.out.lt
      have W5:Hid (WB w5 i (A++[34]++escL ((bl s).take k))):=WR.out.below hb5
      clear hb5
      go_wp2_with (go_at_call 41;refine Sto.out ?_)
      refine Sto.mk ((hp.out S2 _ w5 W5.out LR.out hz2.out).mono ?_)
      rintro e w2 hw2
      rw [hb2.out] at hw2
      rcases hfin.out w5 e w2 _ hE.out B5.out hw2 with ⟨rfl,g1,g2,g3⟩|⟨rfl,g1⟩
      ·have G:=hide (And.intro g1 (And.intro g2 g3))
       clear g1 g2 g3 hw2
       go_wp2_with fail
       exact ⟨⟨k + 1,by go_num,hkl,G⟩,by simp [intOf];omega⟩
      ·have G:=hide g1
       clear g1 hw2
       go_wp2_with fail
       exact ⟨rfl,G.out⟩
     ·have hE:=hide (show escB c=[c] by unfold escB;rw [if_neg h34,if_neg h32])
      have hlt:Op.bytesLess [c] [32]=false:=by rw [bless];exact decide_eq_false h32
      have h32':=hide h32
      clear h32
      have hb2:=hide (show bl S1=[c] by rw [←hS1'.out];rfl)
      have hz2:=hide (show S1.size≤281474976710656 by rw [←bl_length,hb2.out];simp)
      clear h34
      go_wp2_with (go_at_call 41;refine Sto.out ?_)
      refine Sto.mk ((hp.out S1 _ wr WR.out LR.out hz2.out).mono ?_)
      rintro e w2 hw2
      rw [hb2.out] at hw2
      rcases hfin.out wr e w2 _ hE.out (FW.refl _ _) hw2 with ⟨rfl,g1,g2,g3⟩|⟨rfl,g1⟩
      ·have G:=hide (And.intro g1 (And.intro g2 g3))
       clear g1 g2 g3 hw2
       go_wp2_with fail
       exact ⟨⟨k + 1,by go_num,hkl,G⟩,by simp [intOf];omega⟩
      ·have G:=hide g1
       clear g1 hw2
       go_wp2_with fail
       exact ⟨rfl,G.out⟩
   ·have hki:¬ ((k:Int)<(s.size:Int)):=by omega
    have hfull:=hide (show (bl s).take k=bl s from List.take_of_length_le (by rw [bl_length];omega))
    go_wp2_with (go_at_call 41;refine Sto.out ?_)
    refine Sto.mk ((hp.out _ _ wr WR.out LR.out (by decide)).mono ?_)
    rw [hfull.out] at WR LR ⊢
    rintro e w2 hw2'
    have hw2:WO i (A++[34]++escL (bl s)) [34] wr e w2:=hw2'
    clear hw2'
    have hw3:=WO.trans (T:=[34]++escL (bl s)) BR.out (by have:=LR.out;simp at this ⊢;omega) (by simpa using hw2)
    rcases hw2 with ⟨hb2,⟨q2,rfl,hW2⟩|⟨q2,rfl⟩⟩
    ·have H3:=hide hw3
     clear hw3 hb2 q2 hW2
     go_wp2_with fail
     go_end0
     have:=H3.out
     rw [hq.out]
     simpa using this
    ·have H3:=hide hw3
     clear hw3 hb2 q2
     go_wp2_with fail
     refine ⟨rfl,?_⟩
     have:=H3.out
     rw [hq.out]
     simpa using this
 ·have H1:=hide (WO.fail (U:=escL (bl s)++[34]) hb1 q1)
  clear hb1 q1
  go_wp2_with fail
  refine ⟨rfl,?_⟩
  rw [hq.out]
  exact H1.out
set_option maxRecDepth 100000 in
theorem rhex_any (s:ByteArray) (w:World) (hs:s.size≤40000) :
  Calls Tryz.prog 57 #[.string s] w fun e w'=>e=.returned (.string (mkB (hexL (bl s))))∧Below w.heap.size w w':=by
 go_enter Tryz.func57, Tryz.ntmps57
 go_wp2
 go_loopw [3,4] (fun b i W=>∃ (k:Nat) (a:Option Addr) (cp:Nat),i=.int .i64 k∧b=.slice a (2 * k) cp∧k≤s.size∧Hid (Own W w.heap.size (.slice a (2 * k) cp) (hexL ((bl s).take k))∧Below w.heap.size w W)) (fun _ i _=>s.size - (intOf i).toNat)
 case atStart=>exact ⟨0,_,_,rfl,rfl,Nat.zero_le _,hide ⟨by simpa [hexL] using own_nil w w.heap.size,Below.refl _ _⟩⟩
 case round =>
  obtain ⟨k,a,cp,rfl,rfl,hk,HH⟩:=hrel
  obtain ⟨hO,hB⟩:=HH.out
  have OR:=hide hO
  have BR:=hide hB
  clear HH hO hB
  have zr1:w.heap.size≤wr.heap.size:=BR.out.size
  by_cases hkl:k<s.size
  ·have hki:(k:Int)<(s.size:Int):=by omega
   have hst:=hide (show hexL ((bl s).take (k + 1))=hexL ((bl s).take k)++[hx (s[k].toNat / 16),hx (s[k].toNat % 16)] by
    rw [List.take_succ_eq_append_getElem (by rw [bl_length];exact hkl),hexL_snoc,bl_get s k hkl])
   have hlen:(hexL ((bl s).take k)).length=2 * k:=by rw [hexL_len,List.length_take,bl_length];omega
   obtain ⟨c,hc⟩:∃ c,s[k]=c:=⟨_,rfl⟩
   have hcl:c.toNat<256:=c.toNat_lt
   have hd1:c.toNat / 16<16:=by omega
   have hd2:c.toNat % 16<16:=by omega
   have hds1:c.toNat / 16<(⟨#[48,49,50,51,52,53,54,55,56,57,97,98,99,100,101,102]⟩:ByteArray).size:=hd1
   have hds2:c.toNat % 16<(⟨#[48,49,50,51,52,53,54,55,56,57,97,98,99,100,101,102]⟩:ByteArray).size:=hd2
   have hg1:=hxd_get (c.toNat / 16) hd1 hds1
   have hg2:=hxd_get (c.toNat % 16) hd2 hds2
   rw [hc] at hst
   have hlen':=hide hlen
   clear hlen
   have hn:=hide (news_two wr (hx (c.toNat / 16)) (hx (c.toNat % 16)) 5)
   have hq1:((c.toNat:Int) / 16).toNat=c.toNat / 16:=by omega
   have hq2:(0:Int)≤(c.toNat:Int) / 16:=by omega
   have hq3:(c.toNat:Int) / 16<16:=by omega
   have hq4:((c.toNat:Int) % 16).toNat=c.toNat % 16:=by omega
   have hq5:(0:Int)≤(c.toNat:Int) % 16:=by omega
   have hq6:(c.toNat:Int) % 16<16:=by omega
   have hwq1:IntKind.u8.wrap ((c.toNat:Int) / 16)=(c.toNat:Int) / 16:=by rw [IntKind.wrap_u8] <;> omega
   have hwq2:IntKind.u8.wrap ((c.toNat:Int) % 16)=(c.toNat:Int) % 16:=by rw [IntKind.wrap_u8] <;> omega
   have ht1:Int.tdiv (c.toNat:Int) 16=(c.toNat:Int) / 16:=by rw [Int.tdiv_eq_ediv_of_nonneg (by omega)]
   have ht2:Int.tmod (c.toNat:Int) 16=(c.toNat:Int) % 16:=by rw [Int.tmod_eq_emod_of_nonneg (by omega)]
   go_wp2_with fail
   go_region_law (refine step_bytes rfl (.tmp 11) (.tmp 22) rfl w.heap.size (.slice a (2 * k) cp) (hexL ((bl s).take k)) rfl (ownsRow_of OR.out fun g hg hlt=>(show Below wr.heap.size wr _ by repeat (first|exact Below.refl _ _|refine Below.drew ?_|refine below_al ?_)).block g hlt) ⟨wr.heap.size,0,none⟩ 2 2 [hx (c.toNat / 16),hx (c.toNat % 16)] rfl rfl hn.out (by rw [hlen'.out];omega) (by simp;omega) (by omega) ?_;intro av c' w' ho hb hz;have hO':=hide ho.out;have hB':Hid (Below w.heap.size w w'):=(BR.out.trans ((show Below wr.heap.size wr _ by repeat (first|exact Below.refl _ _|refine Below.drew ?_|refine below_al ?_)).mono zr1)).trans hb.out;clear ho hb)
   all_goals
    go_wp2_with fail
    refine ⟨⟨k + 1,av,c',by go_num,by rw [hlen'.out];rfl,hkl,hide ⟨?_,hB'.out⟩⟩,by simp [intOf];omega⟩
    rw [hst.out]
    have h1:=hO'.out
    rw [hlen'.out] at h1
    exact h1
  ·have hki:¬ ((k:Int)<(s.size:Int)):=by omega
   have hke:k=s.size:=by omega
   have hcv:=own_conv OR.out
   rw [List.take_of_length_le (by rw [bl_length];omega)] at hcv
   clear hkl hke
   go_wp2_with fail
   go_ret
   exact ⟨rfl,BR.out⟩
theorem news_any (w W:World) (l:List UInt8) (T:TypeId) (hW:W.heap=(w.alloc (.cells (bcs l).toArray T)).heap):∀ j u,(bcs l)[j]?=some u→W.cell? ((⟨w.heap.size,0,none⟩:Addr).add j)=some u:=by
 intro j u hj
 have q:W.heap[w.heap.size]?=some (.cells (bcs l).toArray T (0,0)):=by rw [hW];exact heap_alloc_new _ _
 rw [show (⟨w.heap.size,0,none⟩:Addr).add j=⟨w.heap.size,j,none⟩ by unfold Addr.add;split <;> simp_all]
 unfold World.cell?
 rw [q]
 show (bcs l).toArray[j]?=some u
 rw [←hj,List.getElem?_toArray]
theorem escL_len (l:List UInt8):(escL l).length≤6 * l.length:=by
 induction l with
 | nil=>simp [escL]
 | cons a l ih =>
  have:(escB a).length≤6:=by unfold escB;split <;> (try split) <;> simp
  simp only [escL,List.flatMap_cons,List.length_append,List.length_cons] at ih ⊢
  omega
theorem app_bs {w:World} {ops:Array Oper} {rest:List Oper} {o:Oper} {a:Act} {Q:Exit→Act→World→Prop} (hgd:o.guard=none) (s x:Operand) (ho:o.op=.call {callee:=.builtin .append,args:=#[s,x],argTypes:=#[32,32]})
  (B:Nat) (v:Value) (l:List UInt8) (hs:a.eval s=v) (hown:Own w B v l) (ad:Addr) (m c:Nat) (news:List UInt8) (hx:a.eval x=.slice (some ad) m c) (hm:news.length=m)
  (hnews:∀ j u,(bcs news)[j]?=some u→w.cell? (ad.add j)=some u) (hl:l.length + m≤110000000000000) (hB:B≤w.heap.size) (hp:0<l.length + m)
  (h:∀ av c' w',Hid (Own w' B (.slice av (l.length + m) c') (l++news))→Hid (Below B w w')→wpList Tryz.prog ops Q rest (a.put o.dst (.slice av (l.length + m) c')) w'):wpList Tryz.prog ops Q (o :: rest) a w:=by
 obtain ⟨i0,hi,hz0,hz1,hz2⟩:=info_parts info5
 refine wpList_append_own_at w hgd s x 32 ho B 5 i0 _ 1 1 Tryz.underlying32 hi hz0 hz1 hz2 rfl (by decide) v l.length (bcs l) hs hown ad m c (bcs news) hx (by rw [bcs_length,hm];simp) hnews ?_ (by unfold maxLen;omega) (by omega) hB ?_
 ·intro u hu
  simp only [bcs,List.mem_map] at hu
  obtain ⟨c,_,rfl⟩:=hu
  rfl
 ·intro v' w' h1 h2 h3 h4
  have hO:Own w' B v' (l++news):=by unfold Own;rw [bcs_append,List.length_append,hm];exact h1
  rcases h1.2 with ⟨rfl,e⟩|⟨g',cap,cur,rfl,_⟩
  ·omega
  ·exact h _ _ w' hO ((Below.refl B w).grown h2 hB hown.row)
theorem u8n {c:UInt8} {v:Nat} (h:¬ c=UInt8.ofNat v):((c.toNat:Int)==(v:Int))=false:=by
 have:¬ (c.toNat:Int)=(v:Int):=fun e=>h (by
  have:c.toNat=v:=by omega
  rw [←this];simp)
 simpa using this
theorem own_fresh (w:World) (c:UInt8):Own (w.alloc (.cells #[.int .u8 c.toNat] 5)) w.heap.size (.slice (some ⟨w.heap.size,0,none⟩) 1 1) [c] :=
 ⟨rfl,Or.inr ⟨w.heap.size,1,#[.int .u8 c.toNat],rfl,Nat.le_refl _,heap_alloc_new _ _,Nat.le_refl _,by decide,rfl,rfl⟩⟩
set_option maxRecDepth 100000 in
theorem rquo_any (s:ByteArray) (w:World) (hs:s.size≤100000) :
  Calls Tryz.prog 55 #[.string s] w fun e w'=>e=.returned (.string (mkB (quo (bl s))))∧Below w.heap.size w w':=by
 go_enter Tryz.func55, Tryz.ntmps55
 go_wp2
 go_loopw [3,4] (fun b i W=>∃ (k n:Nat) (a:Option Addr) (cp:Nat) (L:List UInt8),i=.int .i64 k∧b=.slice a n cp∧k≤s.size∧Hid (L=34 :: escL ((bl s).take k)∧n=L.length∧Own W w.heap.size (.slice a n cp) L∧Below w.heap.size w W)) (fun _ i _=>s.size - (intOf i).toNat)
 case atStart=>exact ⟨0,1,_,1,[34],rfl,rfl,Nat.zero_le _,hide ⟨rfl,rfl,own_fresh w 34,below_al (Below.refl _ _)⟩⟩
 case round =>
  obtain ⟨k,n,a,cp,L,rfl,rfl,hk,HH⟩:=hrel
  obtain ⟨hL,hn,hO,hB⟩:=HH.out
  have hll:n≤600001:=by
   have:=escL_len ((bl s).take k)
   rw [List.length_take,bl_length] at this
   rw [hn,hL,List.length_cons]
   omega
  have OR:=hide hO
  have BR:=hide hB
  have hn':=hide hn
  have hL':=hide hL
  clear HH hO hB hn hL
  have hln:L.length=n:=hn'.out.symm
  have hln':=hide hln
  have zr1:w.heap.size≤wr.heap.size:=BR.out.size
  by_cases hkl:k<s.size
  ·have hki:(k:Int)<(s.size:Int):=by omega
   have hst:=hide (show 34 :: escL ((bl s).take (k + 1))=L++escB s[k] by
    rw [List.take_succ_eq_append_getElem (by rw [bl_length];exact hkl),escL_snoc,bl_get s k hkl,hL'.out,List.cons_append])
   obtain ⟨c,hc⟩:∃ c,s[k]=c:=⟨_,rfl⟩
   rw [hc] at hst
   have hcl:c.toNat<256:=c.toNat_lt
   by_cases h1:c=34∨c=92
   ·have he:escB c=[92,c]:=by unfold escB;rw [if_pos h1]
    rw [he] at hst
    have hq:((c.toNat:Int)==34)=true∨(((c.toNat:Int)==34)=false∧((c.toNat:Int)==92)=true):=by
     rcases h1 with rfl|rfl
     ·exact Or.inl rfl
     ·exact Or.inr ⟨rfl,rfl⟩
    clear h1 he
    rcases hq with q1|⟨q1,q2⟩
    all_goals
     go_wp2_with (at_builtin;refine Sto.out ?_)
     refine Sto.mk ?_
     refine app_bs rfl (.tmp 27) (.tmp 29) rfl w.heap.size (.slice a n cp) L rfl (ownsRow_of OR.out fun g hg hlt=>Below.heap_alloc _ _ _ hlt) ⟨wr.heap.size,0,none⟩ 2 2 [92,c] rfl rfl (news_any wr _ [92,c] 5 rfl) (by omega) (by simp;omega) (by omega) ?_
     intro av c' w' ho hb
     rw [hln'.out] at ho ⊢
     go_wp2_with fail
     refine ⟨⟨k + 1,n + 2,av,c',L++[92,c],by go_num,rfl,hkl,hide ⟨hst.out.symm,by rw [List.length_append,hln'.out];rfl,ho.out,(BR.out.trans ((below_al (Below.refl _ _)).mono zr1)).trans hb.out⟩⟩,by simp [intOf];omega⟩
   ·have q1:((c.toNat:Int)==34)=false:=u8n (fun e=>h1 (Or.inl e))
    have q2:((c.toNat:Int)==92)=false:=u8n (fun e=>h1 (Or.inr e))
    by_cases h2:c.toNat<32
    ·have he:escB c=[92,117,48,48,hx (c.toNat / 16),hx (c.toNat % 16)]:=by unfold escB;rw [if_neg h1,if_pos h2]
     rw [he] at hst
     have q3:decide ((c.toNat:Int)<32)=true:=by simp;omega
     have hd1:c.toNat / 16<16:=by omega
     have hd2:c.toNat % 16<16:=by omega
     have hds1:c.toNat / 16<(⟨#[48,49,50,51,52,53,54,55,56,57,97,98,99,100,101,102]⟩:ByteArray).size:=hd1
     have hds2:c.toNat % 16<(⟨#[48,49,50,51,52,53,54,55,56,57,97,98,99,100,101,102]⟩:ByteArray).size:=hd2
     have hg1:=hxd_get (c.toNat / 16) hd1 hds1
     have hg2:=hxd_get (c.toNat % 16) hd2 hds2
     have hq1:((c.toNat:Int) / 16).toNat=c.toNat / 16:=by omega
     have hq2:(0:Int)≤(c.toNat:Int) / 16:=by omega
     have hq3:(c.toNat:Int) / 16<16:=by omega
     have hq4:((c.toNat:Int) % 16).toNat=c.toNat % 16:=by omega
     have hq5:(0:Int)≤(c.toNat:Int) % 16:=by omega
     have hq6:(c.toNat:Int) % 16<16:=by omega
     have hwq1:IntKind.u8.wrap ((c.toNat:Int) / 16)=(c.toNat:Int) / 16:=by rw [IntKind.wrap_u8] <;> omega
     have hwq2:IntKind.u8.wrap ((c.toNat:Int) % 16)=(c.toNat:Int) % 16:=by rw [IntKind.wrap_u8] <;> omega
     have ht1:Int.tdiv (c.toNat:Int) 16=(c.toNat:Int) / 16:=by rw [Int.tdiv_eq_ediv_of_nonneg (by omega)]
     have ht2:Int.tmod (c.toNat:Int) 16=(c.toNat:Int) % 16:=by rw [Int.tmod_eq_emod_of_nonneg (by omega)]
     clear he h1 h2
     go_wp2_with fail
     go_region_law (refine step_bytes rfl (.tmp 34) (.tmp 41) rfl w.heap.size (.slice a n cp) L rfl (ownsRow_of OR.out fun g hg hlt=>(show Below wr.heap.size wr _ by repeat (first|exact Below.refl _ _|refine Below.drew ?_|refine below_al ?_)).block g hlt) ⟨wr.heap.size,0,none⟩ 6 6 [92,117,48,48,hx (c.toNat / 16),hx (c.toNat % 16)] rfl rfl (news_any wr _ [92,117,48,48,hx (c.toNat / 16),hx (c.toNat % 16)] 5 rfl) (by rw [hln'.out];omega) (by simp;omega) (by omega) ?_;intro av c' w' ho hb hz;have hO':=hide ho.out;have hB':Hid (Below w.heap.size w w'):=(BR.out.trans ((show Below wr.heap.size wr _ by repeat (first|exact Below.refl _ _|refine Below.drew ?_|refine below_al ?_)).mono zr1)).trans hb.out;clear ho hb)
     all_goals
      rw [hln'.out] at hO'
      go_wp2_with fail
      refine ⟨⟨k + 1,n + 6,av,c',L++[92,117,48,48,hx (c.toNat / 16),hx (c.toNat % 16)],by go_num,rfl,hkl,hide ⟨hst.out.symm,by rw [List.length_append,hln'.out];rfl,hO'.out,hB'.out⟩⟩,by simp [intOf];omega⟩
    ·have he:escB c=[c]:=by unfold escB;rw [if_neg h1,if_neg h2]
     rw [he] at hst
     have q3:decide ((c.toNat:Int)<32)=false:=by simp;omega
     clear he h1 h2
     go_wp2_with (at_builtin;refine Sto.out ?_)
     refine Sto.mk ?_
     refine app_bs rfl (.tmp 16) (.tmp 18) rfl w.heap.size (.slice a n cp) L rfl (ownsRow_of OR.out fun g hg hlt=>Below.heap_alloc _ _ _ hlt) ⟨wr.heap.size,0,none⟩ 1 1 [c] rfl rfl (news_any wr _ [c] 5 rfl) (by omega) (by simp;omega) (by omega) ?_
     intro av c' w' ho hb
     rw [hln'.out] at ho ⊢
     go_wp2_with fail
     refine ⟨⟨k + 1,n + 1,av,c',L++[c],by go_num,rfl,hkl,hide ⟨hst.out.symm,by rw [List.length_append,hln'.out];rfl,ho.out,(BR.out.trans ((below_al (Below.refl _ _)).mono zr1)).trans hb.out⟩⟩,by simp [intOf];omega⟩
  ·have hki:¬ ((k:Int)<(s.size:Int)):=by omega
   have hfull:Hid (L++[34]=quo (bl s)):=by
    show _=_
    rw [hL'.out,List.take_of_length_le (by rw [bl_length];omega)]
    rfl
   clear hkl
   go_wp2_with (at_builtin;refine Sto.out ?_)
   refine Sto.mk ?_
   refine app_bs rfl (.tmp 43) (.tmp 44) rfl w.heap.size (.slice a n cp) L rfl (ownsRow_of OR.out fun g hg hlt=>Below.heap_alloc _ _ _ hlt) ⟨wr.heap.size,0,none⟩ 1 1 [34] rfl rfl (news_any wr _ [34] 5 rfl) (by omega) (by simp;omega) (by omega) ?_
   intro av c' w' ho hb
   have hcv:=own_conv ho.out
   rw [hln'.out] at hcv ⊢
   go_wp2_with fail
   go_ret
   exact ⟨by rw [←hfull.out];rfl,(BR.out.trans ((below_al (Below.refl _ _)).mono zr1)).trans hb.out⟩
theorem mkB_cat (a b:List UInt8):mkB a++mkB b=mkB (a++b):=by
 apply ByteArray.ext
 simp [mkB]
theorem cat_run (a b:ByteArray) (c:List UInt8) (hc:bl a++bl b=c) (h:c.length≤281474976710656):∀ w,(Op.stringOp .add a b).run Tryz.prog w=.ok (.string (mkB c)) w:=fun w=>by
 have e:a++b=mkB c:=by
  rw [←mkB_bl a,←mkB_bl b,mkB_cat,hc]
 have hs:a.size + b.size=c.length:=by rw [←bl_length,←bl_length,←hc,List.length_append]
 rw [←e]
 exact run_string_add_sum w _ _ (by omega)
def spc (a b:List UInt8):List UInt8:=[123]++(quo a++([58]++(b++[125])))
theorem quo_len (l:List UInt8):(quo l).length≤6 * l.length + 2:=by
 have:=escL_len l
 simp [quo];omega
theorem rspec_any (a b:ByteArray) (w:World) (ha:a.size≤100000) (hbs:b.size≤281474976000000) :
  Calls Tryz.prog 54 #[.string a,.string b] w fun e w'=>e=.returned (.string (mkB (spc (bl a) (bl b))))∧Below w.heap.size w w':=by
 have hq:=hide (rquo_any a w ha)
 have hl:=quo_len (bl a)
 rw [bl_length] at hl
 obtain ⟨q,hqe⟩:∃ q,quo (bl a)=q:=⟨_,rfl⟩
 have hsp:Hid (spc (bl a) (bl b)=123 :: q++[58]++bl b++[125]):=by show _=_;unfold spc;rw [hqe];simp
 have hbl:=bl_length b
 rw [hqe] at hq hl
 obtain ⟨q1,e1⟩:∃ q1,123 :: q=q1:=⟨_,rfl⟩
 obtain ⟨q2,e2⟩:∃ q2,q1++[58]=q2:=⟨_,rfl⟩
 obtain ⟨q3,e3⟩:∃ q3,q2++bl b=q3:=⟨_,rfl⟩
 obtain ⟨q4,e4⟩:∃ q4,q3++[125]=q4:=⟨_,rfl⟩
 have l1:q1.length=q.length + 1:=by rw [←e1];simp
 have l2:q2.length=q1.length + 1:=by rw [←e2];simp
 have l3:q3.length=q2.length + b.size:=by rw [←e3];simp [bl_length]
 have l4:q4.length=q3.length + 1:=by rw [←e4];simp
 have r1:=cat_run ⟨#[123]⟩ (mkB q) q1 (by rw [bl_mkB,←e1];rfl) (by omega)
 have r2:=cat_run (mkB q1) ⟨#[58]⟩ q2 (by rw [bl_mkB,←e2];rfl) (by omega)
 have r3:=cat_run (mkB q2) b q3 (by rw [bl_mkB,←e3]) (by omega)
 have r4:=cat_run (mkB q3) ⟨#[125]⟩ q4 (by rw [bl_mkB,←e4];rfl) (by omega)
 rw [hsp.out,e1,e2,e3,e4]
 clear hl hqe hbl hsp e1 e2 e3 e4 l1 l2 l3 l4
 go_enter Tryz.func54, Tryz.ntmps54
 go_wp2_with (go_at_call 55;refine (hq.out).mono ?_;rintro e w1 ⟨rfl,hb⟩)
 go_ret
 exact ⟨rfl,hb⟩
def fhd (d:Nat):Nat:=if d<10 then 48 + d else 87 + d
def flowL (b:Nat):Nat→List Nat
 | 0=>[]
 | k + 1=>fhd (b / 16 ^ k % 16) :: flowL b k
theorem flowL_len (b k:Nat):(flowL b k).length=k:=by
 induction k with
 | zero=>rfl
 | succ k ih=>simp [flowL,ih]
def fhexS (b:Nat):ByteArray:=strOfNums ((flowL b 16).map fun v:Nat=>(v:Int))
theorem fhexd_get (d:Nat) (h:d<16) (h':d<(⟨#[48,49,50,51,52,53,54,55,56,57,97,98,99,100,101,102]⟩:ByteArray).size):((⟨#[48,49,50,51,52,53,54,55,56,57,97,98,99,100,101,102]⟩:ByteArray)[d]).toNat=fhd d:=by
 have:d=0∨d=1∨d=2∨d=3∨d=4∨d=5∨d=6∨d=7∨d=8∨d=9∨d=10∨d=11∨d=12∨d=13∨d=14∨d=15:=by omega
 rcases this with rfl|rfl|rfl|rfl|rfl|rfl|rfl|rfl|rfl|rfl|rfl|rfl|rfl|rfl|rfl|rfl <;> rfl
theorem fhex_any (b:Nat) (w:World) (hb:b<18446744073709551616) :
  Calls Tryz.prog 45 #[.int .u64 b] w fun e w'=>e=.returned (.string (fhexS b))∧Below w.heap.size w w':=by
 go_enter Tryz.func45, Tryz.ntmps45
 go_wp2
 go_loopw [0,5] (fun x i wr=>∃ k:Nat,k≤16∧i=.int .i64 k∧x=.int .u64 (b / 16 ^ k:Nat)∧Hid (Arr wr w.heap.size 104 (List.replicate (16 - k) 0++flowL b k))∧Hid (Below w.heap.size w wr)) (fun x i _=>16 - (intOf i).toNat)
 case atStart =>
  refine ⟨0,by omega,rfl,by simp,?_,?_⟩
  ·exact arr_new _ _ 16 _ rfl
  ·exact below_al (Below.refl _ _)
 case round =>
  obtain ⟨k,hk,rfl,rfl,hAr,hB⟩:=hrel
  obtain ⟨y,hy⟩:∃ y,b / 16 ^ k=y:=⟨_,rfl⟩
  have hyb:y<18446744073709551616:=by rw [←hy];exact Nat.lt_of_le_of_lt (Nat.div_le_self _ _) hb
  have hy1:=hide (show b / 16 ^ (k + 1)=y / 16 by rw [Nat.pow_succ,←Nat.div_div_eq_div_mul,hy])
  rw [hy]
  by_cases hlt:k<16
  ·obtain ⟨d,hdd⟩:∃ d,y % 16=d:=⟨_,rfl⟩
   have hd16:d<16:=by omega
   have hm:bits .and .u64 (y:Int) 15=(d:Int):=by
    have:=u64_and_nat y 15 hyb (by omega)
    rw [nat_mask4,hdd] at this
    exact this
   have hds:d<(⟨#[48,49,50,51,52,53,54,55,56,57,97,98,99,100,101,102]⟩:ByteArray).size:=hd16
   have hg:=fhexd_get d hd16 hds
   have hcs:=hAr.out.cell (15 - k) (by simp;omega)
   have hfz:=hAr.out.frozen (15 - k)
   have hlow:=hide (show flowL b (k + 1)=fhd d :: flowL b k by simp only [flowL];rw [hy,hdd])
   have hy:=hide hy
   have hi1:(0:Int)≤15 - (k:Int):=by omega
   have hi2:(15:Int) - (k:Int)<16:=by omega
   have hi3:((15:Int) - (k:Int)).toNat=15 - k:=by omega
   have hset:Hid ((List.replicate (16 - k) 0++flowL b k).set (15 - k) (fhd d)=List.replicate (16 - (k + 1)) 0++flowL b (k + 1)):=by
    show _=_
    rw [hlow.out,show 16 - k=(16 - (k + 1)) + 1 by omega,List.replicate_succ',List.append_assoc,List.set_append_right _ _ (by simp <;> omega),List.length_replicate,show 15 - k - (16 - (k + 1))=0 by omega]
    rfl
   go_wp2
   refine ⟨⟨k + 1,by omega,by go_num,by rw [hy1.out];rfl,?_,?_⟩,by simp [intOf];omega⟩
   ·show Arr _ _ _ _
    rw [←hset.out]
    exact hAr.out.set (15 - k) (fhd d)
   ·exact hB.out.setCell (Nat.le_refl _) _
  ·have hke:k=16:=by omega
   subst hke
   have hAr':Hid (Arr wr w.heap.size 104 (flowL b 16)):=by
    have:=hAr.out
    show Arr _ _ _ _
    simpa using this
   have hl:=flowL_len b 16
   have hconv:(convert 32 9 (.slice (some ⟨w.heap.size,0,none⟩) 16 16)).run Tryz.prog wr=.ok (.string (fhexS b)) wr:=by
    refine run_convert_bytes_arg (P:=Tryz.prog) wr 32 5 Tryz.underlying32 Tryz.underlying5 w.heap.size 0 16 16 ((flowL b 16).map fun v:Nat=>(v:Int)) (by simp [hl]) (fun i hi=>?_) 9 Tryz.underlying9
    rw [Nat.zero_add,hAr'.out.cell i (by omega)]
    congr 2
    rw [List.getD_eq_getElem?_getD,List.getElem?_map,List.getElem?_eq_getElem (by omega)]
    rfl
   clear hl
   go_wp2
   go_ret
   exact ⟨rfl,hB.out⟩
def fsN (l:List Nat):ByteArray:=strOfNums (l.map fun v:Nat=>(v:Int))
theorem fsN_bl (l:List Nat):bl (fsN l)=l.map fun v=>UInt8.ofNat v:=by
 unfold bl fsN
 rw [strOfNums_data,List.map_map]
 apply List.map_congr_left
 intro v _
 show UInt8.ofNat ((v:Int)).toNat=_
 rw [Int.toNat_natCast]
theorem fsN_app (a b:List Nat):fsN a++fsN b=fsN (a++b):=by
 apply ByteArray.ext
 apply Array.toList_inj.1
 show (fsN a++fsN b).data.toList=bl (fsN (a++b))
 rw [fsN_bl,List.map_append,←fsN_bl,←fsN_bl]
 simp [bl]
theorem fsN_size (l:List Nat):(fsN l).size=l.length:=by simp [fsN,strOfNums_size]
theorem fhex_piece (d:Nat) (h:d<16):(⟨#[48,49,50,51,52,53,54,55,56,57,97,98,99,100,101,102]⟩:ByteArray).extract d (d + 1)=fsN [fhd d]:=by
 have:d=0∨d=1∨d=2∨d=3∨d=4∨d=5∨d=6∨d=7∨d=8∨d=9∨d=10∨d=11∨d=12∨d=13∨d=14∨d=15:=by omega
 rcases this with rfl|rfl|rfl|rfl|rfl|rfl|rfl|rfl|rfl|rfl|rfl|rfl|rfl|rfl|rfl|rfl <;> rfl
theorem rfhex_any (b:Nat) (w:World) (hb:b<18446744073709551616) :
  Calls Tryz.prog 56 #[.int .u64 b] w fun e w'=>e=.returned (.string (fhexS b))∧w'=w:=by
 go_enter Tryz.func56, Tryz.ntmps56
 go_wp2
 go_loop [0,3,4] (fun x s i=>∃ k:Nat,k≤16∧i=.int .i64 k∧x=.int .u64 (b / 16 ^ k:Nat)∧s=.string (fsN (flowL b k))) (fun x s i=>16 - (intOf i).toNat)
 case atStart=>exact ⟨0,by omega,rfl,by simp,rfl⟩
 case round =>
  obtain ⟨k,hk,rfl,rfl,rfl⟩:=hrel
  obtain ⟨y,hy⟩:∃ y,b / 16 ^ k=y:=⟨_,rfl⟩
  have hyb:y<18446744073709551616:=by rw [←hy];exact Nat.lt_of_le_of_lt (Nat.div_le_self _ _) hb
  have hy1:=hide (show b / 16 ^ (k + 1)=y / 16 by rw [Nat.pow_succ,←Nat.div_div_eq_div_mul,hy])
  rw [hy]
  by_cases hlt:k<16
  ·obtain ⟨d,hdd⟩:∃ d,y % 16=d:=⟨_,rfl⟩
   have hd16:d<16:=by omega
   have hlow:=hide (show flowL b (k + 1)=fhd d :: flowL b k by simp only [flowL];rw [hy,hdd])
   have hsz:(fsN (flowL b k)).size=k:=by rw [fsN_size,flowL_len]
   have t1:(y:Int).tmod 16=d:=by rw [Int.tmod_eq_emod_of_nonneg (by omega)];omega
   have t2:(y:Int).tdiv 16=((y / 16:Nat):Int):=by rw [Int.tdiv_eq_ediv_of_nonneg (by omega)];omega
   have hY:=hide hy
   have hp:=hide (fhex_piece d hd16)
   clear hy hdd
   go_wp2
   refine ⟨⟨k + 1,by omega,by go_num,by rw [hy1.out];rfl,?_⟩,by simp [intOf];omega⟩
   rw [hp.out,fsN_app,hlow.out]
   rfl
  ·have hke:k=16:=by omega
   subst hke
   go_wp2
   go_ret
   exact ⟨rfl,rfl⟩
end Go.Proofs.YtpimjkdakjhoaaaGreatDoor
