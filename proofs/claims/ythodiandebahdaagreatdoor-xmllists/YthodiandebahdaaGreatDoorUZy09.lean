/- Merged by program: UeThruV, UfTextV. -/
import Derived.Test.YthodiandebahdaaGreatDoorUZy08
namespace Go.Proofs.YthodiandebahdaaGreatDoor.Ut
open Go.RowKit
set_option linter.unusedSimpArgs false
set_option linter.unusedVariables false
set_option maxHeartbeats 8000000
theorem hasPrefix_fffd (l:List UInt8):Lib.hasPrefix l [239,191,189]=true↔∃ t,l=239 :: 191 :: 189 :: t:=by
 unfold Lib.hasPrefix
 rw [List.isPrefixOf_iff_prefix]
 constructor
 ·rintro ⟨t,rfl⟩;exact ⟨t,rfl⟩
 ·rintro ⟨t,rfl⟩;exact ⟨t,rfl⟩
theorem whole_some {l:List UInt8} {r n:Nat} (h:chr l=some (r,n)):whole r l=true:=by
 unfold whole
 by_cases hr:r=65533
 ·subst hr
  rw [Bool.or_eq_true]
  right
  rw [hasPrefix_fffd]
  rcases chr_cases h with ⟨a,t,rfl,rfl,h1,h2⟩|⟨a,b,t,rfl,rfl,h1,h2,hb,hr⟩|⟨a,b,c,t,rfl,rfl,h1,h2,hb,hc,g0,g1,hr⟩|⟨a,b,c,d,t,rfl,rfl,h1,h2,hb,hc,hd,g0,g1,hr⟩
  ·omega
  ·omega
  ·refine ⟨t,?_⟩
   have ha:a.toNat=239:=by omega
   have hb:b.toNat=191:=by omega
   have hc:c.toNat=189:=by omega
   rw [show a=239 from UInt8.toNat_inj.1 ha,show b=191 from UInt8.toNat_inj.1 hb,show c=189 from UInt8.toNat_inj.1 hc]
  ·omega
 ·simp [hr]
theorem whole_none {l:List UInt8} (h:chr l=none):whole 65533 l=false:=by
 unfold whole
 cases hp:Lib.hasPrefix l [239,191,189]
 ·rfl
 ·obtain ⟨t,rfl⟩:=(hasPrefix_fffd l).1 hp
  have:=chr_3 239 191 189 t (by decide) (by decide) (by decide) (by decide) (by decide) (by decide)
  rw [this] at h
  cases h
theorem nx_within {q:St} (hq:q≠.i8) {n:Nat} (h:n<128∨192≤n):nx q n=none:=by
 cases q
 ·exact absurd rfl hq
 all_goals (simp only [nx];rw [if_neg (by omega)])
theorem chr_first {a:UInt8} {l:List UInt8} {r n:Nat} (h:chr (a :: l)=some (r,n)):a.toNat<128∨192≤a.toNat:=by
 rcases chr_cases h with ⟨a,t,e,rfl,h1,h2⟩|⟨a,b,t,e,rfl,h1,h2,hb,hr⟩|⟨a,b,c,t,e,rfl,h1,h2,hb,hc,g0,g1,hr⟩|⟨a,b,c,d,t,e,rfl,h1,h2,hb,hc,hd,g0,g1,hr⟩ <;> (cases e;omega)
theorem chr_high {a:UInt8} {l:List UInt8} (h:chr (a :: l)=none):128≤a.toNat:=by
 rcases Nat.lt_or_ge a.toNat 128 with q|q
 ·rw [chr_1 a l q] at h;cases h
 ·exact q
theorem drop_cons (s:ByteArray) (pos:Nat) (h:pos<s.size):(bl s).drop pos=s[pos] :: (bl s).drop (pos + 1):=by
 rw [List.drop_eq_getElem_cons (by rw [bl_length];exact h),bl_get s pos h]
theorem run_take {p q q':St} {l:List UInt8} {pos n:Nat} (h:run p (l.take pos)=some q) (h2:run q ((l.drop pos).take n)=some q'):run p (l.take (pos + n))=some q':=by
 rw [List.take_add,run_app h];exact h2
theorem run_take_no {p q:St} {l:List UInt8} {pos:Nat} (h:run p (l.take pos)=some q) (h2:run q (l.drop pos)=none):run p l=none:=by
 rw [←List.take_append_drop pos l,run_app h];exact h2
theorem it_set {W:World} {i j o:Nat} {v:Value} {x:Obj} (h:W.heap[i]?=some x) (hij:i≠j):(W.setCell ⟨j,o,none⟩ v).heap[i]?=some x:=by
 rw [Below.heap_setCell _ _ _ _ hij];exact h
structure Th (w:World) (s:ByteArray) (p:St) (pos:Nat) (q:St) (W:World):Prop where
 below:Below w.heap.size w W
 sbp:∃ a b c d e f g h:Nat,spV q=sp a b c d e f g h∧SB W w.heap.size a b c d e f g h
 sbr:SB W (w.heap.size + 1) 0 0 0 0 0 0 0 0
 it:W.heap[w.heap.size + 1 + 1]?=some (.stringIter s pos)
 le:pos≤s.size
 hr:run p ((bl s).take pos)=some q
set_option maxRecDepth 100000 in
theorem through_any (p:St) (s:ByteArray) (w:World) (g:Gu w) (hs:s.size<9223372036854775807) :
  Calls Tryz.prog 140 #[spV p,.string s] w fun r w'=>r=.returned (stV (run p (bl s)))∧Below w.heap.size w w':=by
 have g:=hide g
 obtain ⟨x0,x1,x2,x3,x4,x5,x6,x7,e1,heq⟩:=spV_ex p
 have T0:Hid (Th w s p 0 p (((w.alloc (.cells #[.int .u8 x0,.int .u8 x1,.int .u8 x2,.int .u8 x3,.int .u8 x4,.int .u8 x5,.int .u8 x6,.int .u8 x7] 159)).alloc (.cells #[.int .u8 0,.int .u8 0,.int .u8 0,.int .u8 0,.int .u8 0,.int .u8 0,.int .u8 0,.int .u8 0] 159)).iter s 0)):=by
  refine ⟨below_al (below_al (below_al (Below.refl _ _))),⟨x0,x1,x2,x3,x4,x5,x6,x7,e1,((sb_new w x0 x1 x2 x3 x4 x5 x6 x7).alloc _).alloc _⟩,(sb_new2 w _ 0 0 0 0 0 0 0 0).alloc _,?_,Nat.zero_le _,rfl⟩
  have:=World.iter_heap ((w.alloc (.cells #[.int .u8 x0,.int .u8 x1,.int .u8 x2,.int .u8 x3,.int .u8 x4,.int .u8 x5,.int .u8 x6,.int .u8 x7] 159)).alloc (.cells #[.int .u8 0,.int .u8 0,.int .u8 0,.int .u8 0,.int .u8 0,.int .u8 0,.int .u8 0,.int .u8 0] 159)) s 0
  simpa using this
 rw [e1]
 clear e1 heq
 unfold sp
 go_enter Tryz.func140, Tryz.ntmps140
 go_wp2_with fail
 go_loopw [5] (fun ok w'=>∃ (pos:Nat) (q:St),ok=.bool false∧Hid (Th w s p pos q w')) (fun _ w'=>s.size - w'.iterPos (w.heap.size + 1 + 1))
 case atStart=>exact ⟨0,p,rfl,T0.out⟩
 case round =>
  obtain ⟨pos,q,rfl,T⟩:=hrel
  clear T0
  by_cases hp:pos<s.size
  ·obtain ⟨W1,hW1⟩:∃ W1,wr.iterAt (w.heap.size + 1 + 1) s (pos + (Utf8.decode s pos).2)=W1:=⟨_,rfl⟩
   have hnx:∀ ty,(Instr.next (.pointer (some ⟨w.heap.size + 1 + 1,0,none⟩)) true ty).run Tryz.prog wr=.ok (.tuple #[.bool true,.int .i64 pos,.int .i32 (Utf8.decode s pos).1]) W1:=fun ty=>by rw [←hW1];exact Lib.run_next_any_at wr _ s pos ty T.out.it hp
   have hbW:Below w.heap.size w W1:=by rw [←hW1];exact Lib.below_iterAt T.out.below (by omega) _ _
   have hitW:W1.heap[w.heap.size + 1 + 1]?=some (.stringIter s (pos + (Utf8.decode s pos).2)):=by rw [←hW1];exact Lib.iterAt_heap wr _ s pos _ T.out.it
   have hoth:∀ j,j≠w.heap.size + 1 + 1→W1.heap[j]?=wr.heap[j]?:=fun j hj=>by rw [←hW1];exact Lib.iterAt_other wr _ j s _ hj
   obtain ⟨a,b,c,d,e,f,g2,h,e1,sb⟩:=T.out.sbp
   have hsp:SB W1 w.heap.size a b c d e f g2 h:=by unfold SB at sb ⊢;rw [hoth _ (by omega)];exact sb
   have hsr:SB W1 (w.heap.size + 1) 0 0 0 0 0 0 0 0:=by have:=T.out.sbr;unfold SB at this ⊢;rw [hoth _ (by omega)];exact this
   have hrun:=hide T.out.hr
   have hposit:=iterPos_of T.out.it
   have hgW:=g.out.below hbW
   have b0:=hgW.btc 0 (by omega);have b1:=hgW.btc 1 (by omega);have b2:=hgW.btc 2 (by omega);have b3:=hgW.btc 3 (by omega)
   have b4:=hgW.btc 4 (by omega);have b5:=hgW.btc 5 (by omega);have b6:=hgW.btc 6 (by omega);have b7:=hgW.btc 7 (by omega)
   obtain ⟨c0,c1,c2,c3,c4,c5,c6,c7,_⟩:=hsp.cells
   have hdr:=drop_cons s pos hp
   have hdec:=decode_chr s pos hp
   have hdl:(bl (s.extract pos s.size))=(bl s).drop pos:=by
    have:=Lib.extract_eq s pos s.size
    rw [this]
    show (((bl s).drop pos).take (s.size - pos))=_
    exact List.take_of_length_le (by rw [List.length_drop,bl_length];omega)
   have heq:∀ w,(Op.equalIn 10000 159 (.agg #[.int .u8 a,.int .u8 b,.int .u8 c,.int .u8 d,.int .u8 e,.int .u8 f,.int .u8 g2,.int .u8 h]) (.agg #[.int .u8 0,.int .u8 0,.int .u8 0,.int .u8 0,.int .u8 0,.int .u8 0,.int .u8 0,.int .u8 0])).run Tryz.prog w=.ok (q==.i8) w:=fun w=>by
    have:=eq_sp q w
    rw [e1] at this
    exact this
   clear hW1 hoth sb T
   have hbW:=hide hbW
   have hitW:=hide hitW
   have hsp:=hide hsp
   have hsr:=hide hsr
   have hgW:=hide hgW
   have e1:=hide e1
   have hqe:(q==IntKind.i8)=decide (q=.i8):=by cases q <;> rfl
   rw [hqe] at heq
   by_cases hq:q=.i8
   ·cases hc:chr ((bl s).drop pos) with
    | some rn =>
     obtain ⟨r,n⟩:=rn
     rw [hc] at hdec
     simp only [Option.getD_some] at hdec
     obtain ⟨n1,n4,nl,hrn,_,_⟩:=chr_some hc
     rw [List.length_drop,bl_length] at nl
     have hwh:=hide (isWhole_any r (s.extract pos s.size))
     have hwt:whole r (bl (s.extract pos s.size))=true:=by rw [hdl];exact whole_some hc
     have hwh:=hide (fun w=>isWhole_any r (s.extract pos s.size) w true hwt)
     have hnext:=hide (show run p ((bl s).take (pos + n))=some .i8 from run_take hrun.out (by rw [hq];exact hrn))
     subst hq
     simp only [decide_true] at heq
     rw [hdec] at hnx hitW
     clear hdr hdec hdl hwt hc hrn
     go_wp2_with (go_at_call 160;refine (hwh.out _).mono ?_;rintro r w2 ⟨rfl,hw2⟩;have hw2s:=hw2.symm;clear hw2;subst hw2s)
     go_roundw
     case rel=>exact ⟨pos + n,.i8,rfl,hbW.out,⟨a,b,c,d,e,f,g2,h,e1.out,hsp.out⟩,hsr.out,hitW.out,by omega,hnext.out⟩
     case measure=>rw [hposit,iterPos_of hitW.out];omega
    | none =>
     rw [hc] at hdec
     simp only [Option.getD_none] at hdec
     have hwt:whole 65533 (bl (s.extract pos s.size))=false:=by rw [hdl];exact whole_none hc
     have hwh:=hide (fun w=>isWhole_any 65533 (s.extract pos s.size) w false hwt)
     have h8:128≤s[pos].toNat:=by rw [hdr] at hc;exact chr_high hc
     have hst:=hide (fun w g=>step_b0 s[pos].toNat w g h8)
     have hst':Hid (∀ (w:World),Gu w→Calls Tryz.prog 161 #[.agg #[.int .u8 a,.int .u8 b,.int .u8 c,.int .u8 d,.int .u8 e,.int .u8 f,.int .u8 g2,.int .u8 h],.int .u8 s[pos].toNat] w fun r w'=>r=.returned (stV (nx q s[pos].toNat))∧Below w.heap.size w w'):=fun w g=>by
      have:=hst.out w g
      rw [←hq,e1.out] at this
      exact this
     clear hst
     have hst:=hst'
     clear hst' h8
     have hqd:decide (q=IntKind.i8)=true:=decide_eq_true hq
     rw [hqd] at heq
     rw [hdec] at hnx hitW
     clear hdec hdl hwt hc hq hqd hqe
     cases hn:nx q s[pos].toNat with
     | none =>
      have hfin:=hide (show stV (run p (bl s))=.tuple #[.agg #[.int .u8 0,.int .u8 0,.int .u8 0,.int .u8 0,.int .u8 0,.int .u8 0,.int .u8 0,.int .u8 0],.bool false] by rw [run_take_no hrun.out (by rw [hdr];exact run_cons_no hn)];rfl)
      rw [hn] at hst
      simp only [stV,sp] at hst
      clear hdr hn
      go_wp2_with (go_at_call 160;refine (hwh.out _).mono ?_;rintro r w2 ⟨rfl,hw2⟩;have hw2s:=hw2.symm;clear hw2;subst hw2s)
      go_region_with (go_at_call 161;refine (hst.out W1.drew hgW.out.drew).mono ?_;rintro r w2 ⟨rfl,hb2⟩;have T2:Hid (Below w.heap.size w w2):=below_then hbW.out.drew hb2;have sp2:Hid (SB w2 w.heap.size a b c d e f g2 h):=hsp.out.drew.below hb2 hsp.out.lt;have sr2:Hid (SB w2 (w.heap.size + 1) 0 0 0 0 0 0 0 0):=hsr.out.drew.below hb2 hsr.out.lt;have it2:=hide ((hb2.block _ (show w.heap.size + 1 + 1<W1.drew.heap.size from (Array.getElem?_eq_some_iff.1 hitW.out).1)).trans hitW.out);clear hb2;obtain ⟨m0,m1,m2,m3,m4,m5,m6,m7,f0,f1,f2,f3,f4,f5,f6,f7⟩:=sp2.out.cells;obtain ⟨r0,r1,r2,r3,r4,r5,r6,r7,k0,k1,k2,k3,k4,k5,k6,k7⟩:=sr2.out.cells)
      all_goals
       go_wp2_with fail
       exact bodyPost_ret (v:=.tuple #[.agg #[.int .u8 0,.int .u8 0,.int .u8 0,.int .u8 0,.int .u8 0,.int .u8 0,.int .u8 0,.int .u8 0],.bool false]) (res_sb Tryz.results140 _ _ (w.heap.size + 1) _ rfl rfl (by refine SB.set (a:=0) (b:=0) (c:=0) (d:=0) (e:=0) (f:=0) (g:=0) (h:=0) ?_;(iterate 8 refine SB.other ?_ (by omega));exact sr2.out)) rfl ⟨by rw [hfin.out],by (iterate 16 refine below_set ?_ (by omega));exact T2.out⟩
     | some q' =>
      obtain ⟨a',b',c',d',e',f',g3,h',e2,_⟩:=spV_ex q'
      have hnext:=hide (show run p ((bl s).take (pos + 1))=some q' from run_take hrun.out (by rw [hdr];simp [run,hn]))
      rw [hn] at hst
      simp only [stV,e2,sp] at hst
      have e2:=hide e2
      clear hdr hn
      go_wp2_with (go_at_call 160;refine (hwh.out _).mono ?_;rintro r w2 ⟨rfl,hw2⟩;have hw2s:=hw2.symm;clear hw2;subst hw2s)
      go_region_with (go_at_call 161;refine (hst.out W1.drew hgW.out.drew).mono ?_;rintro r w2 ⟨rfl,hb2⟩;have T2:Hid (Below w.heap.size w w2):=below_then hbW.out.drew hb2;have sp2:Hid (SB w2 w.heap.size a b c d e f g2 h):=hsp.out.drew.below hb2 hsp.out.lt;have sr2:Hid (SB w2 (w.heap.size + 1) 0 0 0 0 0 0 0 0):=hsr.out.drew.below hb2 hsr.out.lt;have it2:=hide ((hb2.block _ (show w.heap.size + 1 + 1<W1.drew.heap.size from (Array.getElem?_eq_some_iff.1 hitW.out).1)).trans hitW.out);clear hb2;obtain ⟨m0,m1,m2,m3,m4,m5,m6,m7,f0,f1,f2,f3,f4,f5,f6,f7⟩:=sp2.out.cells;obtain ⟨r0,r1,r2,r3,r4,r5,r6,r7,k0,k1,k2,k3,k4,k5,k6,k7⟩:=sr2.out.cells)
      all_goals
       go_wp2_with fail
       go_roundw
       case rel=>exact ⟨pos + 1,q',rfl,by (iterate 8 refine below_set ?_ (by omega));exact T2.out,⟨a',b',c',d',e',f',g3,h',e2.out,sp2.out.set⟩,by (iterate 8 refine SB.other ?_ (by omega));exact sr2.out,by (iterate 8 refine it_set ?_ (by omega));exact it2.out,by omega,hnext.out⟩
       case measure=>rw [hposit,iterPos_of (show _=_ by (iterate 8 refine it_set ?_ (by omega));exact it2.out)];omega
   ·have hw1:(nx q s[pos].toNat=none)∨(Utf8.decode s pos).2=1:=by
     cases hc:chr ((bl s).drop pos) with
     | some rn =>
      left
      rw [hdr] at hc
      exact nx_within hq (chr_first hc)
     | none=>right;rw [hdec,hc];rfl
    have hst:Hid (∀ (w:World),Gu w→Calls Tryz.prog 161 #[.agg #[.int .u8 a,.int .u8 b,.int .u8 c,.int .u8 d,.int .u8 e,.int .u8 f,.int .u8 g2,.int .u8 h],.int .u8 s[pos].toNat] w fun r w'=>r=.returned (stV (nx q s[pos].toNat))∧Below w.heap.size w w'):=fun w g=>by
     have:=step_st q hq s[pos].toNat w g
     rw [e1.out] at this
     exact this
    have hqd:decide (q=IntKind.i8)=false:=decide_eq_false hq
    rw [hqd] at heq
    obtain ⟨D1,hD1⟩:∃ D1,(Utf8.decode s pos).1=D1:=⟨_,rfl⟩
    obtain ⟨D2,hD2⟩:∃ D2,(Utf8.decode s pos).2=D2:=⟨_,rfl⟩
    rw [hD1] at hnx
    rw [hD2] at hitW hw1
    clear hdec hdl hqd hqe hD1 hD2
    cases hn:nx q s[pos].toNat with
    | none =>
     have hfin:=hide (show stV (run p (bl s))=.tuple #[.agg #[.int .u8 0,.int .u8 0,.int .u8 0,.int .u8 0,.int .u8 0,.int .u8 0,.int .u8 0,.int .u8 0],.bool false] by rw [run_take_no hrun.out (by rw [hdr];exact run_cons_no hn)];rfl)
     rw [hn] at hst
     simp only [stV,sp] at hst
     clear hdr hn
     go_wp2_with (fail)
     go_region_with (go_at_call 161;refine (hst.out W1.drew hgW.out.drew).mono ?_;rintro r w2 ⟨rfl,hb2⟩;have T2:Hid (Below w.heap.size w w2):=below_then hbW.out.drew hb2;have sp2:Hid (SB w2 w.heap.size a b c d e f g2 h):=hsp.out.drew.below hb2 hsp.out.lt;have sr2:Hid (SB w2 (w.heap.size + 1) 0 0 0 0 0 0 0 0):=hsr.out.drew.below hb2 hsr.out.lt;have it2:=hide ((hb2.block _ (show w.heap.size + 1 + 1<W1.drew.heap.size from (Array.getElem?_eq_some_iff.1 hitW.out).1)).trans hitW.out);clear hb2;obtain ⟨m0,m1,m2,m3,m4,m5,m6,m7,f0,f1,f2,f3,f4,f5,f6,f7⟩:=sp2.out.cells;obtain ⟨r0,r1,r2,r3,r4,r5,r6,r7,k0,k1,k2,k3,k4,k5,k6,k7⟩:=sr2.out.cells)
     all_goals
      go_wp2_with fail
      exact bodyPost_ret (v:=.tuple #[.agg #[.int .u8 0,.int .u8 0,.int .u8 0,.int .u8 0,.int .u8 0,.int .u8 0,.int .u8 0,.int .u8 0],.bool false]) (res_sb Tryz.results140 _ _ (w.heap.size + 1) _ rfl rfl (by refine SB.set (a:=0) (b:=0) (c:=0) (d:=0) (e:=0) (f:=0) (g:=0) (h:=0) ?_;(iterate 8 refine SB.other ?_ (by omega));exact sr2.out)) rfl ⟨by rw [hfin.out],by (iterate 16 refine below_set ?_ (by omega));exact T2.out⟩
    | some q' =>
     obtain ⟨a',b',c',d',e',f',g3,h',e2,_⟩:=spV_ex q'
     have hnext:=hide (show run p ((bl s).take (pos + 1))=some q' from run_take hrun.out (by rw [hdr];simp [run,hn]))
     have hD:D2=1:=by
      rcases hw1 with h1|h1
      ·rw [hn] at h1;cases h1
      ·exact h1
     subst hD
     clear hw1
     rw [hn] at hst
     simp only [stV,e2,sp] at hst
     have e2:=hide e2
     clear hdr hn
     go_wp2_with (fail)
     go_region_with (go_at_call 161;refine (hst.out W1.drew hgW.out.drew).mono ?_;rintro r w2 ⟨rfl,hb2⟩;have T2:Hid (Below w.heap.size w w2):=below_then hbW.out.drew hb2;have sp2:Hid (SB w2 w.heap.size a b c d e f g2 h):=hsp.out.drew.below hb2 hsp.out.lt;have sr2:Hid (SB w2 (w.heap.size + 1) 0 0 0 0 0 0 0 0):=hsr.out.drew.below hb2 hsr.out.lt;have it2:=hide ((hb2.block _ (show w.heap.size + 1 + 1<W1.drew.heap.size from (Array.getElem?_eq_some_iff.1 hitW.out).1)).trans hitW.out);clear hb2;obtain ⟨m0,m1,m2,m3,m4,m5,m6,m7,f0,f1,f2,f3,f4,f5,f6,f7⟩:=sp2.out.cells;obtain ⟨r0,r1,r2,r3,r4,r5,r6,r7,k0,k1,k2,k3,k4,k5,k6,k7⟩:=sr2.out.cells)
     all_goals
      go_wp2_with fail
      go_roundw
      case rel=>exact ⟨pos + 1,q',rfl,by (iterate 8 refine below_set ?_ (by omega));exact T2.out,⟨a',b',c',d',e',f',g3,h',e2.out,sp2.out.set⟩,by (iterate 8 refine SB.other ?_ (by omega));exact sr2.out,by (iterate 8 refine it_set ?_ (by omega));exact it2.out,by omega,hnext.out⟩
      case measure=>rw [hposit,iterPos_of (show _=_ by (iterate 8 refine it_set ?_ (by omega));exact it2.out)];omega
  ·have hpe:pos=s.size:=by have:=T.out.le;omega
   subst hpe
   have hnx:∀ ty,(Instr.next (.pointer (some ⟨w.heap.size + 1 + 1,0,none⟩)) true ty).run Tryz.prog wr=.ok (.tuple #[.bool false]) wr:=fun ty=>Lib.run_next_end_at wr _ s _ ty T.out.it hp
   obtain ⟨a,b,c,d,e,f,g2,h,e1,sb⟩:=T.out.sbp
   obtain ⟨c0,c1,c2,c3,c4,c5,c6,c7,_⟩:=sb.cells
   obtain ⟨r0,r1,r2,r3,r4,r5,r6,r7,k0,k1,k2,k3,k4,k5,k6,k7⟩:=T.out.sbr.cells
   have hfin:=hide (show stV (run p (bl s))=.tuple #[.agg #[.int .u8 a,.int .u8 b,.int .u8 c,.int .u8 d,.int .u8 e,.int .u8 f,.int .u8 g2,.int .u8 h],.bool true] by
    have:=T.out.hr
    rw [List.take_of_length_le (by rw [bl_length];omega)] at this
    rw [this]
    simp only [stV,e1,sp])
   clear e1
   have sb:=hide sb
   go_wp2_with fail
   exact bodyPost_ret (v:=.tuple #[.agg #[.int .u8 a,.int .u8 b,.int .u8 c,.int .u8 d,.int .u8 e,.int .u8 f,.int .u8 g2,.int .u8 h],.bool true]) (res_sb Tryz.results140 _ _ (w.heap.size + 1) _ rfl rfl T.out.sbr.set) rfl ⟨by rw [hfin.out],by have:=T.out.below;(iterate 8 refine below_set ?_ (by omega));exact this⟩
def okT (l:List UInt8):Bool:=decide (run .i8 l=some .i8)
theorem run_ok {o:Option St} {l:List UInt8} (h:run .i8 l=o):okT l=(o.isSome && (o.getD .i16==.i8)):=by
 unfold okT
 rw [h]
 cases o with
 | none=>rfl
 | some q=>cases q <;> rfl
theorem Gu.bts {w:World} (g:Gu w):w.cell? ⟨1,0,none⟩=some (.int .u8 0)∧w.cell? ⟨1,1,none⟩=some (.int .u8 0)∧w.cell? ⟨1,2,none⟩=some (.int .u8 0)∧w.cell? ⟨1,3,none⟩=some (.int .u8 0)∧w.cell? ⟨1,4,none⟩=some (.int .u8 0)∧w.cell? ⟨1,5,none⟩=some (.int .u8 0)∧w.cell? ⟨1,6,none⟩=some (.int .u8 0)∧w.cell? ⟨1,7,none⟩=some (.int .u8 0) :=
 ⟨g.btc 0 (by omega),g.btc 1 (by omega),g.btc 2 (by omega),g.btc 3 (by omega),g.btc 4 (by omega),g.btc 5 (by omega),g.btc 6 (by omega),g.btc 7 (by omega)⟩
theorem Gu.bt1 {w:World} (g:Gu w):(∀ o,(w.alloc o).cell? ⟨1,0,none⟩=some (.int .u8 0))∧(∀ o,(w.alloc o).cell? ⟨1,1,none⟩=some (.int .u8 0))∧(∀ o,(w.alloc o).cell? ⟨1,2,none⟩=some (.int .u8 0))∧(∀ o,(w.alloc o).cell? ⟨1,3,none⟩=some (.int .u8 0))∧(∀ o,(w.alloc o).cell? ⟨1,4,none⟩=some (.int .u8 0))∧(∀ o,(w.alloc o).cell? ⟨1,5,none⟩=some (.int .u8 0))∧(∀ o,(w.alloc o).cell? ⟨1,6,none⟩=some (.int .u8 0))∧(∀ o,(w.alloc o).cell? ⟨1,7,none⟩=some (.int .u8 0)):=by
 have k:∀ o,Gu (w.alloc o):=fun o=>g.below (below_al (Below.refl _ _))
 exact ⟨fun o=>(k o).btc 0 (by omega),fun o=>(k o).btc 1 (by omega),fun o=>(k o).btc 2 (by omega),fun o=>(k o).btc 3 (by omega),fun o=>(k o).btc 4 (by omega),fun o=>(k o).btc 5 (by omega),fun o=>(k o).btc 6 (by omega),fun o=>(k o).btc 7 (by omega)⟩
theorem thru_b0 (s:ByteArray) (w:World) (g:Gu w) (hs:s.size<9223372036854775807) :
  Calls Tryz.prog 140 #[.agg #[.int .u8 0,.int .u8 0,.int .u8 0,.int .u8 0,.int .u8 0,.int .u8 0,.int .u8 0,.int .u8 0],.string s] w fun r w'=>r=.returned (stV (run .i8 (bl s)))∧Below w.heap.size w w':=through_any .i8 s w g hs
theorem valid_any (s:ByteArray) (w:World) (g:Gu w) (hs:s.size<9223372036854775807) :
  Calls Tryz.prog 120 #[.string s] w fun r w'=>r=.returned (.bool (okT (bl s)))∧Below w.heap.size w w':=by
 obtain ⟨b0,b1,b2,b3,b4,b5,b6,b7⟩:=g.bts
 have g:=hide g
 have ht:=hide (thru_b0 s w g.out hs)
 obtain ⟨o,ho⟩:∃ o,run .i8 (bl s)=o:=⟨_,rfl⟩
 rw [run_ok ho]
 rw [ho] at ht
 clear ho
 cases o with
 | none =>
  simp only [stV,sp] at ht
  go_enter Tryz.func120, Tryz.ntmps120
  go_wp2_with (go_at_call 140;refine ht.out.mono ?_;rintro r w1 ⟨rfl,hb1⟩;obtain ⟨d0,d1,d2,d3,d4,d5,d6,d7⟩:=(g.out.below hb1).bt1;have hb1:=hide hb1)
  go_ret
  exact ⟨rfl,below_al hb1.out⟩
 | some q =>
  obtain ⟨a,b,c,d,e,f,g2,h,e1,heq⟩:=spV_ex q
  simp only [stV,e1,sp] at ht
  clear e1
  go_enter Tryz.func120, Tryz.ntmps120
  go_wp2_with (go_at_call 140;refine ht.out.mono ?_;rintro r w1 ⟨rfl,hb1⟩;obtain ⟨d0,d1,d2,d3,d4,d5,d6,d7⟩:=(g.out.below hb1).bt1;have hb1:=hide hb1)
  go_ret
  exact ⟨by simp,below_al hb1.out⟩
theorem isCharacter_any (r:Int) (w:World) (h0:-9223372036854775808≤r) (h1:r≤9223372036854775807) :
  Calls Tryz.prog 137 #[.int .i64 r] w fun e w'=>e=.returned (.bool (Utf8.valid r))∧w'=w:=by
 have e:Utf8.valid r=decide ((0≤r∧r<55296)∨(55295 + 2048<r∧r≤1114111)):=by
  simp only [Utf8.valid]
  rw [Bool.eq_iff_iff]
  simp only [Bool.or_eq_true,Bool.and_eq_true,decide_eq_true_eq]
  omega
 rw [e]
 go_enter Tryz.func137, Tryz.ntmps137
 go_wp2
 all_goals
  go_ret
  refine ⟨congrArg Ending.returned (show Value.bool _=Value.bool _ from congrArg Value.bool ?_),rfl⟩
  first
   | rfl
   | (rw [Bool.eq_iff_iff];simp;omega)
theorem encode_any (r:Int) (w:World) (h0:-9223372036854775808≤r) (h1:r≤9223372036854775807) :
  Calls Tryz.prog 115 #[.int .i64 r] w fun e w'=>e=.returned (.tuple (if Utf8.valid r then #[.string (Utf8.encode r),.int .i64 0] else #[.string ⟨#[]⟩,.int .i64 1]))∧w'=w:=by
 have hc:=hide (fun w=>isCharacter_any r w h0 h1)
 cases hv:Utf8.valid r
 ·rw [hv] at hc
  go_enter Tryz.func115, Tryz.ntmps115
  go_wp2_with (go_at_call 137;refine (hc.out _).mono ?_;rintro e w1 ⟨rfl,rfl⟩)
  go_ret2
  exact ⟨rfl,rfl⟩
 ·rw [hv] at hc
  have hw:IntKind.i32.wrap r=r:=by
   have:0≤r∧r≤1114111:=by
    simp only [Utf8.valid,Bool.or_eq_true,Bool.and_eq_true,decide_eq_true_eq] at hv
    omega
   rw [IntKind.wrap_i32];omega
  clear hv
  go_enter Tryz.func115, Tryz.ntmps115
  go_wp2_with (go_at_call 137;refine (hc.out _).mono ?_;rintro e w1 ⟨rfl,rfl⟩)
  go_ret2
  exact ⟨rfl,rfl⟩
end Go.Proofs.YthodiandebahdaaGreatDoor.Ut
