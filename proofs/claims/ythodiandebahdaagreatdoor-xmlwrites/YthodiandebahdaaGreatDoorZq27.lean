/- Merged by program: RkPrint, LqElem, LrParts. -/
import Derived.Test.YthodiandebahdaaGreatDoorZq26
import Derived.Test.YthodiandebahdaaGreatDoorZq25
namespace Go.Proofs.YthodiandebahdaaGreatDoor
open Go.RowKit
set_option linter.unusedSimpArgs false
set_option linter.unusedVariables false
set_option maxHeartbeats 8000000
theorem rprint_any (n:Bool)(s:ByteArray)(x:Int)(w:World)(h:isN n s x=true) :
  Calls Tryz.prog 51 #[.agg #[.bool n,.string s,.int .i64 x]] w fun e w'=>e=.returned (.tuple #[.string (mkB (printL n (bl s) x)),.int .i64 0])∧Below w.heap.size w w':=by
 obtain ⟨had,hl1,hl40,hx1,hx2,hdg⟩:=isN_all h
 clear had hdg
 unfold printL
 rw [bl_length]
 by_cases h1:0≤x∧(s.size:Int)+x≤21
 ·rw [if_pos h1]
  obtain ⟨k,rfl⟩:∃ k:Nat,x=k:=⟨x.toNat,by omega⟩
  rw [Int.toNat_natCast]
  cases n
  ·exact rprint_plain_false s k (by omega) w h
  ·exact rprint_plain_true s k (by omega) w h
 ·rw [if_neg h1]
  by_cases h2:x<0∧-21≤x
  ·rw [if_pos h2]
   obtain ⟨bh,rfl⟩:∃ bh:Nat,x=-(bh:Int):=⟨(-x).toNat,by omega⟩
   rw [show (- -(bh:Int)).toNat=bh by omega]
   unfold pointed
   rw [bl_length]
   by_cases h3:s.size≤bh
   ·rw [if_pos h3]
    cases n
    ·exact rprint_le_false s bh (bh - s.size) (by omega) (by omega) (by omega) w h
    ·exact rprint_le_true s bh (bh - s.size) (by omega) (by omega) (by omega) w h
   ·rw [if_neg h3]
    cases n
    ·exact rprint_in_false s bh (s.size - bh) (by omega) (by omega) (by omega) (by omega) w h
    ·exact rprint_in_true s bh (s.size - bh) (by omega) (by omega) (by omega) (by omega) w h
  ·rw [if_neg h2]
   unfold powered
   rw [bl_length]
   by_cases h4:1<s.size
   ·rw [if_pos h4]
    by_cases h3:x<0
    ·cases n
     ·exact rprint_downm_false s x h4 h3 (by omega) w h
     ·exact rprint_downm_true s x h4 h3 (by omega) w h
    ·cases n
     ·exact rprint_upm_false s x h4 (by omega) (by omega) w h
     ·exact rprint_upm_true s x h4 (by omega) (by omega) w h
   ·rw [if_neg h4,List.append_nil]
    by_cases h3:x<0
    ·cases n
     ·exact rprint_downo_false s x (by omega) h3 (by omega) w h
     ·exact rprint_downo_true s x (by omega) h3 (by omega) w h
    ·cases n
     ·exact rprint_upo_false s x (by omega) (by omega) (by omega) w h
     ·exact rprint_upo_true s x (by omega) (by omega) (by omega) w h
def TxP (w:World)(l:List UInt8)(e:Ending)(w':World):Prop:=e=.returned (.string (mkB l))∧Below w.heap.size w w'
structure Tcx (n:Nat)(x:VT n)(ns ls:Value)(w:World):Prop where
 rd:RD n w x ns ls
 vo:Vo n x
 lo:(xtx n x).length≤100000000000000
def RXe (n:Nat):Prop:=∀ (x:VT n)(ns ls:Value)(w:World),Tcx n x ns ls w →
 Calls Tryz.prog 27 #[.agg (vals (vhd n x) ns ls)] w fun e w'=>TxP w (xtx n x) e w'
set_option maxRecDepth 100000 in
theorem rxe_1 (n:Nat)(h:Hd)(l:List (VT n))(ns ls:Value)(w:World)(hc:Tcx (n+1) ((h,l):VT (n+1)) ns ls w)(hk:h.kind=1) :
  Calls Tryz.prog 27 #[.agg (vals h ns ls)] w fun e w'=>TxP w (xtx (n+1) ((h,l):VT (n+1))) e w':=by
 obtain ⟨al,cl,rfl,hl1,hl2⟩:=hc.rd.len
 obtain ⟨an,cn,rfl,hn1,hn2⟩:=hc.rd.1.len
 have tz:=hide hc.vo.2.1.1
 have hj:=hide (show xtx (n+1) ((h,l):VT (n+1))=mNull by
  show (if h.kind=1 then _ else _)=_
  rw [if_pos hk]
  first|done|rfl)
 rw [hj.out]
 clear hj
 obtain ⟨kd,fl,ng,dg,ex,bt,tx,nm⟩:=h
 simp only at hk tz
 subst hk
 clear hc tz
 show Calls _ _ #[.agg #[.int .i64 1,.bool fl,.bool ng,.string dg,.int .i64 ex,.int .u64 bt,.string tx,.slice an nm.length cn,.slice al l.length cl]] _ _
 go_enter Tryz.func27, Tryz.ntmps27
 go_wp2
 go_ret
 exact ⟨rfl,below_al (Below.refl _ _)⟩
set_option maxRecDepth 100000 in
theorem rxe_2 (n:Nat)(h:Hd)(l:List (VT n))(ns ls:Value)(w:World)(hc:Tcx (n+1) ((h,l):VT (n+1)) ns ls w)(hk:h.kind=2) :
  Calls Tryz.prog 27 #[.agg (vals h ns ls)] w fun e w'=>TxP w (xtx (n+1) ((h,l):VT (n+1))) e w':=by
 obtain ⟨al,cl,rfl,hl1,hl2⟩:=hc.rd.len
 obtain ⟨an,cn,rfl,hn1,hn2⟩:=hc.rd.1.len
 have tz:=hide hc.vo.2.1.1
 have hj:=hide (show xtx (n+1) ((h,l):VT (n+1))=xflg h.flag by
  show (if h.kind=1 then _ else _)=_
  rw [if_neg (show ¬ h.kind=1 by omega),if_pos hk]
  first|done|rfl)
 rw [hj.out]
 clear hj
 obtain ⟨kd,fl,ng,dg,ex,bt,tx,nm⟩:=h
 simp only at hk tz
 subst hk
 clear hc tz
 show Calls _ _ #[.agg #[.int .i64 2,.bool fl,.bool ng,.string dg,.int .i64 ex,.int .u64 bt,.string tx,.slice an nm.length cn,.slice al l.length cl]] _ _
 cases fl
 all_goals
  go_enter Tryz.func27, Tryz.ntmps27
  go_wp2
  go_ret
  exact ⟨rfl,below_al (Below.refl _ _)⟩
set_option maxRecDepth 100000 in
theorem rxe_3 (n:Nat)(h:Hd)(l:List (VT n))(ns ls:Value)(w:World)(hc:Tcx (n+1) ((h,l):VT (n+1)) ns ls w)(hk:h.kind=3) :
  Calls Tryz.prog 27 #[.agg (vals h ns ls)] w fun e w'=>TxP w (xtx (n+1) ((h,l):VT (n+1))) e w':=by
 obtain ⟨al,cl,rfl,hl1,hl2⟩:=hc.rd.len
 obtain ⟨an,cn,rfl,hn1,hn2⟩:=hc.rd.1.len
 have tz:=hide hc.vo.2.1.1
 have hj:=hide (show xtx (n+1) ((h,l):VT (n+1))=mNum++(printL h.neg (bl h.dig) h.exp++mNumE) by
  show (if h.kind=1 then _ else _)=_
  rw [if_neg (show ¬ h.kind=1 by omega),if_neg (show ¬ h.kind=2 by omega),if_pos hk]
  first|done|rfl)
 rw [hj.out]
 have hN:isN h.neg h.dig h.exp=true:=hc.vo.1.2.1.1 hk
 have pr:=hide (fun W=>rprint_any h.neg h.dig h.exp W hN)
 have ps:(printL h.neg (bl h.dig) h.exp).length≤100000000000000:=by
  have:=hc.lo
  rw [hj.out] at this
  rw [List.length_append,List.length_append] at this
  omega
 clear hj
 obtain ⟨kd,fl,ng,dg,ex,bt,tx,nm⟩:=h
 simp only at hk tz hN pr ps
 subst hk
 clear hc tz
 show Calls _ _ #[.agg #[.int .i64 3,.bool fl,.bool ng,.string dg,.int .i64 ex,.int .u64 bt,.string tx,.slice an nm.length cn,.slice al l.length cl]] _ _
 obtain ⟨S,hS⟩:∃ S,mkB (printL ng (bl dg) ex)=S:=⟨_,rfl⟩
 have hSb:printL ng (bl dg) ex=bl S:=by rw [←hS,bl_mkB]
 have hSz:S.size≤100000000000000:=by rw [←hS,mkB_size];exact ps
 rw [hS] at pr
 rw [hSb]
 show Calls _ _ _ _ fun e w'=>e=.returned (.string (mkB (mNum++(bl S++mNumE))))∧Below w.heap.size w w'
 clear hS hSb ps hN
 obtain ⟨Z1,hZ1⟩:∃ Z1,mkB (mNum++bl S)=Z1:=⟨_,rfl⟩
 obtain ⟨Z2,hZ2⟩:∃ Z2,mkB (mNum++(bl S++mNumE))=Z2:=⟨_,rfl⟩
 have r1:∀ w,(Op.stringOp .add ⟨#[60,110,117,109,62]⟩ S).run Tryz.prog w=.ok (.string Z1) w:=by
  rw [←hZ1]
  exact cat_run _ _ (mNum++bl S) rfl (by rw [List.length_append,bl_length];show 5+S.size≤_;omega)
 have r2:∀ w,(Op.stringOp .add Z1 ⟨#[60,47,110,117,109,62]⟩).run Tryz.prog w=.ok (.string Z2) w:=by
  rw [←hZ1,←hZ2]
  exact cat_run _ _ _ (by rw [bl_mkB,List.append_assoc];rfl) (by rw [List.length_append,List.length_append,bl_length];show 5+(S.size+6)≤_;omega)
 rw [hZ2]
 clear hZ1 hZ2
 go_enter Tryz.func27, Tryz.ntmps27
 go_wp2_with (go_at_call 51;refine Sto.out ?_)
 refine Sto.mk ((pr.out _).mono ?_)
 rintro e w1 ⟨rfl,hb1⟩
 have B1:Hid (Below w.heap.size w w1):=(below_al (Below.refl _ _)).trans (hb1.mono (by simp))
 clear hb1
 go_wp2_with fail
 go_ret
 exact ⟨rfl,B1.out⟩
set_option maxRecDepth 100000 in
theorem rxe_4 (n:Nat)(h:Hd)(l:List (VT n))(ns ls:Value)(w:World)(hc:Tcx (n+1) ((h,l):VT (n+1)) ns ls w)(hk:h.kind=4) :
  Calls Tryz.prog 27 #[.agg (vals h ns ls)] w fun e w'=>TxP w (xtx (n+1) ((h,l):VT (n+1))) e w':=by
 obtain ⟨al,cl,rfl,hl1,hl2⟩:=hc.rd.len
 obtain ⟨an,cn,rfl,hn1,hn2⟩:=hc.rd.1.len
 have tz:=hide hc.vo.2.1.1
 have hj:=hide (show xtx (n+1) ((h,l):VT (n+1))=mFloat++(bl (fhexS h.bits.toNat)++mFloatE) by
  show (if h.kind=1 then _ else _)=_
  rw [if_neg (show ¬ h.kind=1 by omega),if_neg (show ¬ h.kind=2 by omega),if_neg (show ¬ h.kind=3 by omega),if_pos hk]
  first|done|rfl)
 rw [hj.out]
 have hR:=hc.vo.2.2
 have hb1:0≤h.bits:=hR.1
 have hb2:h.bits<18446744073709551616:=hR.2.1
 obtain ⟨bn,hbn⟩:∃ bn:Nat,h.bits=(bn:Int):=⟨h.bits.toNat,by omega⟩
 have hbt:=hide (show h.bits.toNat=bn by omega)
 have fx:=hide (fun W=>rfhex_any bn W (by omega))
 clear hR hb1 hb2
 clear hj
 obtain ⟨kd,fl,ng,dg,ex,bt,tx,nm⟩:=h
 simp only at hk tz hbn hbt
 subst hk
 clear hc tz
 show Calls _ _ #[.agg #[.int .i64 4,.bool fl,.bool ng,.string dg,.int .i64 ex,.int .u64 bt,.string tx,.slice an nm.length cn,.slice al l.length cl]] _ _
 rw [hbt.out]
 subst hbn
 obtain ⟨S,hS⟩:∃ S,fhexS bn=S:=⟨_,rfl⟩
 have hSz:S.size≤100000000000000:=by rw [←hS];unfold fhexS;rw [strOfNums_size,List.length_map,flowL_len];omega
 rw [hS] at fx ⊢
 show Calls _ _ _ _ fun e w'=>e=.returned (.string (mkB (mFloat++(bl S++mFloatE))))∧Below w.heap.size w w'
 clear hS hbt
 obtain ⟨Z1,hZ1⟩:∃ Z1,mkB (mFloat++bl S)=Z1:=⟨_,rfl⟩
 obtain ⟨Z2,hZ2⟩:∃ Z2,mkB (mFloat++(bl S++mFloatE))=Z2:=⟨_,rfl⟩
 have r1:∀ w,(Op.stringOp .add ⟨#[60,102,108,111,97,116,62]⟩ S).run Tryz.prog w=.ok (.string Z1) w:=by
  rw [←hZ1]
  exact cat_run _ _ (mFloat++bl S) rfl (by rw [List.length_append,bl_length];show 7+S.size≤_;omega)
 have r2:∀ w,(Op.stringOp .add Z1 ⟨#[60,47,102,108,111,97,116,62]⟩).run Tryz.prog w=.ok (.string Z2) w:=by
  rw [←hZ1,←hZ2]
  exact cat_run _ _ _ (by rw [bl_mkB,List.append_assoc];rfl) (by rw [List.length_append,List.length_append,bl_length];show 7+(S.size+8)≤_;omega)
 rw [hZ2]
 clear hZ1 hZ2
 go_enter Tryz.func27, Tryz.ntmps27
 go_wp2_with (go_at_call 52;refine Sto.out ?_)
 refine Sto.mk ((fx.out _).mono ?_)
 rintro e w1 ⟨rfl,hw1⟩
 have hw1:=hw1.symm
 subst hw1
 go_wp2_with fail
 go_ret
 exact ⟨rfl,below_al (Below.refl _ _)⟩
set_option maxRecDepth 100000 in
theorem rxe_5 (n:Nat)(h:Hd)(l:List (VT n))(ns ls:Value)(w:World)(hc:Tcx (n+1) ((h,l):VT (n+1)) ns ls w)(hk:h.kind=5) :
  Calls Tryz.prog 27 #[.agg (vals h ns ls)] w fun e w'=>TxP w (xtx (n+1) ((h,l):VT (n+1))) e w':=by
 obtain ⟨al,cl,rfl,hl1,hl2⟩:=hc.rd.len
 obtain ⟨an,cn,rfl,hn1,hn2⟩:=hc.rd.1.len
 have tz:=hide hc.vo.2.1.1
 have hj:=hide (show xtx (n+1) ((h,l):VT (n+1))=mText++(xeL (bl h.text)++mTextE) by
  show (if h.kind=1 then _ else _)=_
  rw [if_neg (show ¬ h.kind=1 by omega),if_neg (show ¬ h.kind=2 by omega),if_neg (show ¬ h.kind=3 by omega),if_neg (show ¬ h.kind=4 by omega),if_pos hk]
  first|done|rfl)
 rw [hj.out]
 have htz:h.text.size≤4096:=by
  have q:=tz.out
  simp only [hk] at q
  have q2:(h.text.size:Int)≤4096:=q
  omega
 clear hj
 obtain ⟨kd,fl,ng,dg,ex,bt,tx,nm⟩:=h
 simp only at hk tz htz
 subst hk
 clear hc tz
 show Calls _ _ #[.agg #[.int .i64 5,.bool fl,.bool ng,.string dg,.int .i64 ex,.int .u64 bt,.string tx,.slice an nm.length cn,.slice al l.length cl]] _ _
 have fx:=hide (fun W=>fchars_any tx W (by omega))
 obtain ⟨S,hS⟩:∃ S,mkB (xeL (bl tx))=S:=⟨_,rfl⟩
 have hSb:xeL (bl tx)=bl S:=by rw [←hS,bl_mkB]
 have hSz:S.size≤100000000000000:=by have:=xeL_le (bl tx);rw [bl_length] at this;rw [←hS,mkB_size];omega
 rw [hS] at fx
 rw [hSb]
 show Calls _ _ _ _ fun e w'=>e=.returned (.string (mkB (mText++(bl S++mTextE))))∧Below w.heap.size w w'
 clear hS hSb htz
 obtain ⟨Z1,hZ1⟩:∃ Z1,mkB (mText++bl S)=Z1:=⟨_,rfl⟩
 obtain ⟨Z2,hZ2⟩:∃ Z2,mkB (mText++(bl S++mTextE))=Z2:=⟨_,rfl⟩
 have r1:∀ w,(Op.stringOp .add ⟨#[60,116,101,120,116,62]⟩ S).run Tryz.prog w=.ok (.string Z1) w:=by
  rw [←hZ1]
  exact cat_run _ _ (mText++bl S) rfl (by rw [List.length_append,bl_length];show 6+S.size≤_;omega)
 have r2:∀ w,(Op.stringOp .add Z1 ⟨#[60,47,116,101,120,116,62]⟩).run Tryz.prog w=.ok (.string Z2) w:=by
  rw [←hZ1,←hZ2]
  exact cat_run _ _ _ (by rw [bl_mkB,List.append_assoc];rfl) (by rw [List.length_append,List.length_append,bl_length];show 6+(S.size+7)≤_;omega)
 rw [hZ2]
 clear hZ1 hZ2
 go_enter Tryz.func27, Tryz.ntmps27
 go_wp2_with (go_at_call 53;refine Sto.out ?_)
 refine Sto.mk ((fx.out _).mono ?_)
 rintro e w1 ⟨rfl,hb1⟩
 have B1:Hid (Below w.heap.size w w1):=(below_al (Below.refl _ _)).trans (hb1.mono (by simp))
 clear hb1
 go_wp2_with fail
 go_ret
 exact ⟨rfl,B1.out⟩
set_option maxRecDepth 100000 in
theorem rxe_6 (n:Nat)(h:Hd)(l:List (VT n))(ns ls:Value)(w:World)(hc:Tcx (n+1) ((h,l):VT (n+1)) ns ls w)(hk:h.kind=6) :
  Calls Tryz.prog 27 #[.agg (vals h ns ls)] w fun e w'=>TxP w (xtx (n+1) ((h,l):VT (n+1))) e w':=by
 obtain ⟨al,cl,rfl,hl1,hl2⟩:=hc.rd.len
 obtain ⟨an,cn,rfl,hn1,hn2⟩:=hc.rd.1.len
 have tz:=hide hc.vo.2.1.1
 have hj:=hide (show xtx (n+1) ((h,l):VT (n+1))=mBytes++(hexL (bl h.text)++mBytesE) by
  show (if h.kind=1 then _ else _)=_
  rw [if_neg (show ¬ h.kind=1 by omega),if_neg (show ¬ h.kind=2 by omega),if_neg (show ¬ h.kind=3 by omega),if_neg (show ¬ h.kind=4 by omega),if_neg (show ¬ h.kind=5 by omega),if_pos hk]
  first|done|rfl)
 rw [hj.out]
 have htz:h.text.size≤4096:=by
  have q:=tz.out
  simp only [hk] at q
  have q2:(h.text.size:Int)≤4096:=q
  omega
 clear hj
 obtain ⟨kd,fl,ng,dg,ex,bt,tx,nm⟩:=h
 simp only at hk tz htz
 subst hk
 clear hc tz
 show Calls _ _ #[.agg #[.int .i64 6,.bool fl,.bool ng,.string dg,.int .i64 ex,.int .u64 bt,.string tx,.slice an nm.length cn,.slice al l.length cl]] _ _
 have T0:Hid (Tw w ⟨6,fl,ng,dg,ex,bt,tx,nm⟩ (.slice an nm.length cn) (.slice al l.length cl) _):=Tw.new w _ _ _
 simp only [vals] at T0
 obtain ⟨v0,v1,v2,v3,v4,v5,v6,v7,v8⟩:=T0.out.bx.cells
 go_enter Tryz.func27, Tryz.ntmps27
 go_wp2_with fail
 clear v0 v1 v2 v3 v4 v5 v6 v7 v8
 go_loopw [5,6] (fun b i W=>∃ (k:Nat) (a:Option Addr) (cp:Nat),i=.int .i64 k∧b=.slice a (2 * k) cp∧k≤tx.size∧Hid (To w ⟨6,fl,ng,dg,ex,bt,tx,nm⟩ (.slice an nm.length cn) (.slice al l.length cl) (.slice a (2 * k) cp) (hexL ((bl tx).take k)) W)) (fun _ i _=>tx.size - (intOf i).toNat)
 case atStart=>exact ⟨0,none,0,rfl,rfl,Nat.zero_le _,hide ⟨T0.out,own_nil _ _⟩⟩
 case round =>
  obtain ⟨k,a,cp,rfl,rfl,hk,HH⟩:=hrel
  have TR:=HH
  obtain ⟨v0,v1,v2,v3,v4,v5,v6,v7,v8⟩:=HH.out.tw.bx.cells
  have zr1:w.heap.size+1≤wr.heap.size:=HH.out.lt
  clear HH T0 v0 v1 v2 v3 v4 v5 v7 v8
  by_cases hkl:k<tx.size
  ·have hki:(k:Int)<(tx.size:Int):=by omega
   have hst:=hide (show hexL ((bl tx).take (k+1))=hexL ((bl tx).take k)++[hx (tx[k].toNat / 16),hx (tx[k].toNat % 16)] by
    rw [List.take_succ_eq_append_getElem (by rw [bl_length];exact hkl),hexL_snoc,bl_get tx k hkl])
   have hlen:(hexL ((bl tx).take k)).length=2 * k:=by rw [hexL_len,List.length_take,bl_length];omega
   obtain ⟨c,hc⟩:∃ c,tx[k]=c:=⟨_,rfl⟩
   have hcl:c.toNat<256:=c.toNat_lt
   have hd1:c.toNat / 16<16:=by omega
   have hd2:c.toNat % 16<16:=by omega
   have hds1:c.toNat / 16<(⟨#[48,49,50,51,52,53,54,55,56,57,97,98,99,100,101,102]⟩:ByteArray).size:=hd1
   have hds2:c.toNat % 16<(⟨#[48,49,50,51,52,53,54,55,56,57,97,98,99,100,101,102]⟩:ByteArray).size:=hd2
   have hg1:=hxd_get (c.toNat / 16) hd1 hds1
   have hg2:=hxd_get (c.toNat % 16) hd2 hds2
   rw [hc] at hst
   have hlen':=hide hlen
   clear hlen
   have hn:=hide (news_two wr (hx (c.toNat / 16)) (hx (c.toNat % 16)) 5)
   have hq1:((c.toNat:Int) / 16).toNat=c.toNat / 16:=by omega
   have hq2:(0:Int)≤(c.toNat:Int) / 16:=by omega
   have hq3:(c.toNat:Int) / 16<16:=by omega
   have hq4:((c.toNat:Int) % 16).toNat=c.toNat % 16:=by omega
   have hq5:(0:Int)≤(c.toNat:Int) % 16:=by omega
   have hq6:(c.toNat:Int) % 16<16:=by omega
   have hwq1:IntKind.u8.wrap ((c.toNat:Int) / 16)=(c.toNat:Int) / 16:=by rw [IntKind.wrap_u8] <;> omega
   have hwq2:IntKind.u8.wrap ((c.toNat:Int) % 16)=(c.toNat:Int) % 16:=by rw [IntKind.wrap_u8] <;> omega
   have ht1:Int.tdiv (c.toNat:Int) 16=(c.toNat:Int) / 16:=by rw [Int.tdiv_eq_ediv_of_nonneg (by omega)]
   have ht2:Int.tmod (c.toNat:Int) 16=(c.toNat:Int) % 16:=by rw [Int.tmod_eq_emod_of_nonneg (by omega)]
   go_wp2_with fail
   go_region_law (refine step_bytes rfl (.tmp 52) (.tmp 65) rfl (w.heap.size+1) (.slice a (2 * k) cp) (hexL ((bl tx).take k)) rfl (ownsRow_of TR.out.own fun g hg hlt=>(show Below wr.heap.size wr _ by repeat (first|exact Below.refl _ _|refine Below.drew ?_|refine below_al ?_)).block g hlt) ⟨wr.heap.size,0,none⟩ 2 2 [hx (c.toNat / 16),hx (c.toNat % 16)] rfl rfl hn.out (by rw [hlen'.out];omega) (by simp;omega) (by omega) ?_;intro av c' w' ho hb hz;have T':Hid (To w ⟨6,fl,ng,dg,ex,bt,tx,nm⟩ (.slice an nm.length cn) (.slice al l.length cl) (.slice av ((hexL ((bl tx).take k)).length+2) c') (hexL ((bl tx).take k)++[hx (c.toNat / 16),hx (c.toNat % 16)]) w'):=TR.out.on (((show Below wr.heap.size wr _ by repeat (first|exact Below.refl _ _|refine Below.drew ?_|refine below_al ?_)).mono zr1).trans hb.out) ho.out;clear ho hb)
   all_goals
    rw [hlen'.out] at T'
    go_wp2_with fail
    refine ⟨⟨k+1,av,c',by go_num,by first|rfl|(rw [hlen'.out];rfl),hkl,hide ?_⟩,by simp [intOf];omega⟩
    rw [hst.out]
    exact T'.out
  ·have hki:¬ ((k:Int)<(tx.size:Int)):=by omega
   have hke:k=tx.size:=by omega
   have hcv:=own_conv TR.out.own
   rw [List.take_of_length_le (by rw [bl_length];omega)] at hcv
   obtain ⟨S,hS⟩:∃ S,mkB (hexL (bl tx))=S:=⟨_,rfl⟩
   have hSb:hexL (bl tx)=bl S:=by rw [←hS,bl_mkB]
   have hSz:S.size≤100000000000000:=by rw [←hS,mkB_size,hexL_len,bl_length];omega
   rw [hS] at hcv
   have HSb:=hide hSb
   clear hS hSb hkl hke
   obtain ⟨Z1,hZ1⟩:∃ Z1,mkB (mBytes++bl S)=Z1:=⟨_,rfl⟩
   obtain ⟨Z2,hZ2⟩:∃ Z2,mkB (mBytes++(bl S++mBytesE))=Z2:=⟨_,rfl⟩
   have r1:∀ w,(Op.stringOp .add ⟨#[60,98,121,116,101,115,62]⟩ S).run Tryz.prog w=.ok (.string Z1) w:=by
    rw [←hZ1]
    exact cat_run _ _ (mBytes++bl S) rfl (by rw [List.length_append,bl_length];show 7+S.size≤_;omega)
   have r2:∀ w,(Op.stringOp .add Z1 ⟨#[60,47,98,121,116,101,115,62]⟩).run Tryz.prog w=.ok (.string Z2) w:=by
    rw [←hZ1,←hZ2]
    exact cat_run _ _ _ (by rw [bl_mkB,List.append_assoc];rfl) (by rw [List.length_append,List.length_append,bl_length];show 7+(S.size+8)≤_;omega)
   have HZ:=hide hZ2
   clear hZ1 hZ2
   go_wp2_with fail
   go_ret
   refine ⟨?_,TR.out.tw.be⟩
   show _=Ending.returned (.string (mkB _))
   rw [HSb.out,HZ.out]
   rfl
theorem Tcx.kid {n:Nat} {h:Hd} {l:List (VT n)} {ns ls:Value} {w W:World} (hc:Tcx (n+1) ((h,l):VT (n+1)) ns ls w)(k:Nat)(hk:k<l.length)(ns' ls':Value)(hrd:RD n W l[k] ns' ls')(hz:(xtx n l[k]).length≤100000000000000):Tcx n l[k] ns' ls' W:=⟨hrd,hc.vo.kid k hk,hz⟩
set_option maxRecDepth 100000 in
theorem rxe_7 (n:Nat)(rt:RXe n)(h:Hd)(l:List (VT n))(ns ls:Value)(w:World)(hc:Tcx (n+1) ((h,l):VT (n+1)) ns ls w)(hk:h.kind=7) :
  Calls Tryz.prog 27 #[.agg (vals h ns ls)] w fun e w'=>TxP w (xtx (n+1) ((h,l):VT (n+1))) e w':=by
 obtain ⟨al,cl,rfl,hl1,hl2⟩:=hc.rd.len
 obtain ⟨an,cn,rfl,hn1,hn2⟩:=hc.rd.1.len
 have hj:xtx (n+1) ((h,l):VT (n+1))=mList++(xel n l l.length++mListE):=by
  show (if h.kind=1 then _ else _)=_
  rw [if_neg (show ¬ h.kind=1 by omega),if_neg (show ¬ h.kind=2 by omega),if_neg (show ¬ h.kind=3 by omega),if_neg (show ¬ h.kind=4 by omega),if_neg (show ¬ h.kind=5 by omega),if_neg (show ¬ h.kind=6 by omega),if_pos hk]
  rfl
 have hlen:=hc.lo
 rw [hj] at hlen ⊢
 have hl256:l.length≤256:=hc.vo.2.1.2.1
 have hjl:(xel n l l.length).length≤100000000000000:=by rw [List.length_append,List.length_append] at hlen;omega
 have hc':=hide hc
 have hjl':=hide hjl
 have rt':=hide rt
 clear hc hlen hj hjl rt
 obtain ⟨kd,fl,ng,dg,ex,bt,tx,nm⟩:=h
 simp only at hk hn1 hn2 hl1 hl2
 subst hk
 show Calls _ _ #[.agg #[.int .i64 7,.bool fl,.bool ng,.string dg,.int .i64 ex,.int .u64 bt,.string tx,.slice an nm.length cn,.slice al l.length cl]] _ _
 have T0:Hid (To w ⟨7,fl,ng,dg,ex,bt,tx,nm⟩ (.slice an nm.length cn) (.slice al l.length cl) (.slice none 0 0) [] _):=⟨Tw.new w _ _ _,own_nil _ _⟩
 simp only [vals] at T0
 obtain ⟨v0,v1,v2,v3,v4,v5,v6,v7,v8⟩:=T0.out.tw.bx.cells
 go_enter Tryz.func27, Tryz.ntmps27
 go_wp2_with fail
 clear v0 v1 v2 v3 v4 v5 v6 v7 v8
 go_loopw [7,8,9] (fun b i _ W=>∃ (k nn:Nat) (a:Option Addr) (cp:Nat) (L:List UInt8),i=.int .i64 k∧b=.slice a nn cp∧k≤l.length∧Hid (L=xel n l k∧nn=L.length∧To w ⟨7,fl,ng,dg,ex,bt,tx,nm⟩ (.slice an nm.length cn) (.slice al l.length cl) (.slice a nn cp) L W)) (fun _ i _ _=>l.length - (intOf i).toNat)
 case atStart=>exact ⟨0,0,none,0,[],rfl,rfl,Nat.zero_le _,hide ⟨rfl,rfl,T0.out⟩⟩
 case round =>
  obtain ⟨k,nn,a,cp,L,rfl,rfl,hk,HH⟩:=hrel
  obtain ⟨hL,hn,hT⟩:=HH.out
  have TR:=hide hT
  have hL':=hide hL
  have hln':=hide hn.symm
  have zr1:w.heap.size+1≤wr.heap.size:=hT.lt
  obtain ⟨v0,v1,v2,v3,v4,v5,v6,v7,v8⟩:=hT.tw.bx.cells
  clear HH hT hL hn T0
  by_cases hkl:k<l.length
  ·have hki:(k:Int)<(l.length:Int):=by omega
   have hsu:=hide (xel_succ n l k hkl)
   have hle:=(xel_le n l (k:=k+1) hkl).length_le
   rw [hsu.out,←hL'.out,List.length_append] at hle
   have hle':=hjl'.out
   obtain ⟨b,o,c,he,hbl,hlc,hcm2,ns',ls',hrg,hrd⟩:=hc'.out.rd.at k hkl
   have he':=Value.slice.inj he
   obtain ⟨rfl,_,rfl⟩:=he'
   clear he
   obtain ⟨a1,m1,d1,a2,m2,d2,rfl,rfl⟩:=hrd.shape
   obtain ⟨J,hJ⟩:∃ J,xtx n l[k]=J:=⟨_,rfl⟩
   rw [hJ] at hle hsu
   have hJz:J.length≤100000000000000:=by omega
   have hJs:(mkB J).size=J.length:=mkB_size J
   have tg:=hide (fun W (hb:Below w.heap.size w W)=>rt'.out l[k] _ _ W (hc'.out.kid k hkl _ _ (hrd.below hb) (by rw [hJ];exact hJz)))
   rw [hJ] at tg
   have HRG:=hide hrg
   obtain ⟨g,hg⟩:∃ g,vhd n l[k]=g:=⟨_,rfl⟩
   have hg2:vhd n ((⟨7,fl,ng,dg,ex,bt,tx,nm⟩,l):VT (n+1)).2[k]=g:=hg
   rw [hg2] at HRG
   rw [hg] at tg
   simp only [vals] at tg
   have hLn:nn+J.length≤100000000000000:=by rw [←hln'.out];omega
   clear hg hg2 hrd hrg hJ hle hle'
   obtain ⟨e0,e1,e2,e3,e4,e5,e6,e7,e8⟩:=range9 (rangeAt_below HRG.out TR.out.tw.be hbl)
   go_wp2_with (go_at_call 27;refine Sto.out ?_)
   refine Sto.mk ((tg.out _ TR.out.tw.be).mono ?_)
   rintro e w5 ⟨rfl,hb5⟩
   have T5:=hide (TR.out.then hb5)
   clear hb5 e0 e1 e2 e3 e4 e5 e6 e7 e8 v0 v1 v2 v3 v4 v5 v6 v7 v8
   obtain ⟨v0,v1,v2,v3,v4,v5,v6,v7,v8⟩:=T5.out.tw.bx.cells
   go_wp2_with (at_builtin;refine Sto.out ?_)
   refine Sto.mk ?_
   refine app_st rfl (.tmp 120) (.tmp 121) rfl (w.heap.size+1) (.slice a nn cp) L rfl T5.out.own (mkB J) rfl (by rw [hln'.out,hJs];omega) T5.out.lt ?_
   intro av6 c6 w6 ho hb
   rw [hln'.out,hJs] at ho ⊢
   have T6:=hide (T5.out.on hb.out ho.out)
   clear ho hb v0 v1 v2 v3 v4 v5 v6 v7 v8
   go_wp2_with fail
   refine ⟨⟨k+1,nn+J.length,av6,c6,L++bl (mkB J),by go_num,rfl,hkl,hide ⟨by rw [hsu.out,bl_mkB,←hL'.out],by rw [List.length_append,hln'.out,bl_length,hJs],T6.out⟩⟩,by simp [intOf];omega⟩
  ·have hki:¬ (k:Int)<(l.length:Int):=by omega
   have hke:k=l.length:=by omega
   have hcv:=own_conv TR.out.own
   have hLl:L.length≤100000000000000:=by rw [hL'.out,hke];exact hjl'.out
   rw [hke] at hL'
   obtain ⟨Z1,hZ1⟩:∃ Z1,mkB (mList++L)=Z1:=⟨_,rfl⟩
   obtain ⟨Z2,hZ2⟩:∃ Z2,mkB (mList++(L++mListE))=Z2:=⟨_,rfl⟩
   have r1:∀ w,(Op.stringOp .add ⟨#[60,108,105,115,116,62]⟩ (mkB L)).run Tryz.prog w=.ok (.string Z1) w:=by
    rw [←hZ1]
    exact cat_run _ _ (mList++L) (by rw [bl_mkB];rfl) (by rw [List.length_append];show 6+_≤_;omega)
   have r2:∀ w,(Op.stringOp .add Z1 ⟨#[60,47,108,105,115,116,62]⟩).run Tryz.prog w=.ok (.string Z2) w:=by
    rw [←hZ1,←hZ2]
    exact cat_run _ _ _ (by rw [bl_mkB,List.append_assoc];rfl) (by rw [List.length_append,List.length_append];show 6+(_+7)≤_;omega)
   have HZ:=hide hZ2
   clear hZ1 hZ2 hke hkl
   go_wp2_with fail
   go_ret
   refine ⟨?_,TR.out.tw.be⟩
   show _=Ending.returned (.string (mkB _))
   rw [←hL'.out,HZ.out]
   rfl
set_option maxRecDepth 100000 in
theorem rxe_9 (n:Nat)(rt:RXe n)(h:Hd)(l:List (VT n))(ns ls:Value)(w:World)(hc:Tcx (n+1) ((h,l):VT (n+1)) ns ls w)(hk:h.kind=9) :
  Calls Tryz.prog 27 #[.agg (vals h ns ls)] w fun e w'=>TxP w (xtx (n+1) ((h,l):VT (n+1))) e w':=by
 obtain ⟨al,cl,rfl,hl1,hl2⟩:=hc.rd.len
 obtain ⟨an,cn,rfl,hn1,hn2⟩:=hc.rd.1.len
 have tz:=hide hc.vo.2.1.1
 have hl1':l.length=1:=(hc.vo.1.2.1.2.2.2 hk).2
 have hl0:0<l.length:=by omega
 obtain ⟨J,hJ⟩:∃ J,xtx n l[0]=J:=⟨_,rfl⟩
 have hj:xtx (n+1) ((h,l):VT (n+1))=mTag++(xeL (bl h.text)++(mNameE++(J++mTagE))):=by
  show (if h.kind=1 then _ else _)=_
  rw [if_neg (show ¬ h.kind=1 by omega),if_neg (show ¬ h.kind=2 by omega),if_neg (show ¬ h.kind=3 by omega),if_neg (show ¬ h.kind=4 by omega),if_neg (show ¬ h.kind=5 by omega),if_neg (show ¬ h.kind=6 by omega),if_neg (show ¬ h.kind=7 by omega),if_neg (show ¬ h.kind=8 by omega),←hJ]
  show mTag++(xeL (bl h.text)++(mNameE++((l[0]?).elim [] (xtx n)++mTagE)))=_
  rw [List.getElem?_eq_getElem hl0]
  rfl
 have hlen:=hc.lo
 rw [hj] at hlen ⊢
 have hJl:J.length≤100000000000000:=by simp only [List.length_append] at hlen;omega
 obtain ⟨b,o,c,he,hbl,hlc,hcm2,ns',ls',hrg,hrd⟩:=hc.rd.at 0 hl0
 have he':=Value.slice.inj he
 obtain ⟨rfl,_,rfl⟩:=he'
 clear he
 obtain ⟨a1,m1,d1,a2,m2,d2,rfl,rfl⟩:=hrd.shape
 have htz:h.text.size≤64:=by
  have q:=tz.out
  simp only [hk] at q
  have q2:(h.text.size:Int)≤64:=q
  omega
 have tg:=hide (fun W (hb:Below w.heap.size w W)=>rt l[0] _ _ W (hc.kid 0 hl0 _ _ (hrd.below hb) (by rw [hJ];exact hJl)))
 rw [hJ] at tg
 have HRG:=hide hrg
 obtain ⟨g,hg⟩:∃ g,vhd n l[0]=g:=⟨_,rfl⟩
 have hg2:vhd n ((h,l):VT (n+1)).2[0]=g:=hg
 rw [hg2] at HRG
 rw [hg] at tg
 simp only [vals] at tg
 have qu:=hide (fun W=>fchars_any h.text W (by omega))
 have qt:=hide (fun W=>fquote_any W)
 have hql:=xeL_le (bl h.text)
 rw [bl_length] at hql
 obtain ⟨q,hq⟩:∃ q,xeL (bl h.text)=q:=⟨_,rfl⟩
 rw [hq] at qu hql ⊢
 obtain ⟨q0,f0⟩:∃ q0:List UInt8,[60,116,97,103,32,110,97,109,101,61]++[34]=q0:=⟨_,rfl⟩
 obtain ⟨q1,f1⟩:∃ q1:List UInt8,q0++q=q1:=⟨_,rfl⟩
 obtain ⟨q2,f2⟩:∃ q2:List UInt8,q1++[34]=q2:=⟨_,rfl⟩
 obtain ⟨q3,f3⟩:∃ q3:List UInt8,q2++[62]=q3:=⟨_,rfl⟩
 obtain ⟨q4,f4⟩:∃ q4:List UInt8,q3++J=q4:=⟨_,rfl⟩
 obtain ⟨q5,f5⟩:∃ q5:List UInt8,q4++[60,47,116,97,103,62]=q5:=⟨_,rfl⟩
 have l0:q0.length=11:=by rw [←f0];rfl
 have l1:q1.length=q0.length+q.length:=by rw [←f1];simp
 have l2:q2.length=q1.length+1:=by rw [←f2];simp
 have l3:q3.length=q2.length+1:=by rw [←f3];simp
 have l4:q4.length=q3.length+J.length:=by rw [←f4];simp
 have l5:q5.length=q4.length+6:=by rw [←f5];simp
 have r0:=cat_run ⟨#[60,116,97,103,32,110,97,109,101,61]⟩ ⟨#[34]⟩ q0 (by rw [←f0];rfl) (by omega)
 have r1:=cat_run (mkB q0) (mkB q) q1 (by rw [bl_mkB,bl_mkB,←f1]) (by omega)
 have r2:=cat_run (mkB q1) ⟨#[34]⟩ q2 (by rw [bl_mkB,←f2];rfl) (by omega)
 have r3:=cat_run (mkB q2) ⟨#[62]⟩ q3 (by rw [bl_mkB,←f3];rfl) (by omega)
 have r4:=cat_run (mkB q3) (mkB J) q4 (by rw [bl_mkB,bl_mkB,←f4]) (by omega)
 have r5:=cat_run (mkB q4) ⟨#[60,47,116,97,103,62]⟩ q5 (by rw [bl_mkB,←f5];rfl) (by omega)
 have hfin:mTag++(q++(mNameE++(J++mTagE)))=q5:=by
  rw [←f5,←f4,←f3,←f2,←f1,←f0]
  simp [mTag,mNameE,mTagE]
 show Calls _ _ _ _ fun e w'=>e=.returned (.string (mkB _))∧Below w.heap.size w w'
 rw [hfin]
 obtain ⟨Z5,hZ5⟩:∃ Z,mkB q5=Z:=⟨_,rfl⟩
 obtain ⟨Z4,hZ4⟩:∃ Z,mkB q4=Z:=⟨_,rfl⟩
 obtain ⟨Z3,hZ3⟩:∃ Z,mkB q3=Z:=⟨_,rfl⟩
 obtain ⟨Z2,hZ2⟩:∃ Z,mkB q2=Z:=⟨_,rfl⟩
 obtain ⟨Z1,hZ1⟩:∃ Z,mkB q1=Z:=⟨_,rfl⟩
 obtain ⟨Z0,hZ0⟩:∃ Z,mkB q0=Z:=⟨_,rfl⟩
 obtain ⟨ZJ,hZJ⟩:∃ Z,mkB J=Z:=⟨_,rfl⟩
 obtain ⟨Zq,hZq⟩:∃ Z,mkB q=Z:=⟨_,rfl⟩
 rw [hZ5] at r5 ⊢
 rw [hZ4] at r4 r5
 rw [hZ3] at r3 r4
 rw [hZ2] at r2 r3
 rw [hZ1] at r1 r2
 rw [hZ0] at r0 r1
 rw [hZq] at r1 qu
 have tg2:Hid (∀ W,Below w.heap.size w W→Calls Tryz.prog 27 #[.agg #[.int .i64 g.kind,.bool g.flag,.bool g.neg,.string g.dig,.int .i64 g.exp,.int .u64 g.bits,.string g.text,.slice a1 m1 d1,.slice a2 m2 d2]] W fun e w'=>e=.returned (.string ZJ)∧Below W.heap.size W w'):=fun W hb=>(tg.out W hb).mono fun e w' hp=>by rw [←hZJ];exact hp
 rw [hZJ] at r4
 clear hZ0 hZ1 hZ2 hZ3 hZ4 hZ5 hZJ hZq hfin l0 l1 l2 l3 l4 l5 f0 f1 f2 f3 f4 f5 hq hql hj hlen hJ hJl tz hg hg2 hrd hrg hc rt tg
 obtain ⟨kd,fl,ng,dg,ex,bt,tx,nm⟩:=h
 simp only at hk qu htz hn1 hn2 hl1 hl2
 subst hk
 show Calls _ _ #[.agg #[.int .i64 9,.bool fl,.bool ng,.string dg,.int .i64 ex,.int .u64 bt,.string tx,.slice an nm.length cn,.slice (some ⟨b,o,none⟩) l.length cl]] _ _
 have hl0i:(0:Int)<(l.length:Int):=by omega
 have hl1h:=hide hl1'
 clear hl1'
 have T0:Hid (Tw w ⟨9,fl,ng,dg,ex,bt,tx,nm⟩ (.slice an nm.length cn) (.slice (some ⟨b,o,none⟩) l.length cl) _):=Tw.new w _ _ _
 have mkS:Hid (∀ W,Tw w ⟨9,fl,ng,dg,ex,bt,tx,nm⟩ (.slice an nm.length cn) (.slice (some ⟨b,o,none⟩) l.length cl) W→(fun w'=>w'.cell? ⟨w.heap.size,6,none⟩=some (.string tx)∧w'.cell? ⟨w.heap.size,8,none⟩=some (.slice (some ⟨b,o,none⟩) l.length cl)∧w'.cell? ⟨b,o,none⟩=some (.int .i64 g.kind)∧w'.cell? ⟨b,o+1,none⟩=some (.bool g.flag)∧w'.cell? ⟨b,o+2,none⟩=some (.bool g.neg)∧w'.cell? ⟨b,o+3,none⟩=some (.string g.dig)∧w'.cell? ⟨b,o+4,none⟩=some (.int .i64 g.exp)∧w'.cell? ⟨b,o+5,none⟩=some (.int .u64 g.bits)∧w'.cell? ⟨b,o+6,none⟩=some (.string g.text)∧w'.cell? ⟨b,o+7,none⟩=some (.slice a1 m1 d1)∧w'.cell? ⟨b,o+8,none⟩=some (.slice a2 m2 d2)) W):=by
  intro W t
  obtain ⟨e0,e1,e2,e3,e4,e5,e6,e7,e8⟩:=range9 (rangeAt_below HRG.out t.be hbl)
  simp only [Nat.zero_mul,Nat.add_zero] at e0 e1 e2 e3 e4 e5 e6 e7 e8
  obtain ⟨v0,v1,v2,v3,v4,v5,v6,v7,v8⟩:=t.bx.cells
  exact ⟨v6,v8,e0,e1,e2,e3,e4,e5,e6,e7,e8⟩
 simp only [vals] at T0
 go_enter Tryz.func27, Tryz.ntmps27
 go_wp2_with fail
 go_region_held3 (fun w'=>w'.cell? ⟨w.heap.size,6,none⟩=some (.string tx)∧w'.cell? ⟨w.heap.size,8,none⟩=some (.slice (some ⟨b,o,none⟩) l.length cl)∧w'.cell? ⟨b,o,none⟩=some (.int .i64 g.kind)∧w'.cell? ⟨b,o+1,none⟩=some (.bool g.flag)∧w'.cell? ⟨b,o+2,none⟩=some (.bool g.neg)∧w'.cell? ⟨b,o+3,none⟩=some (.string g.dig)∧w'.cell? ⟨b,o+4,none⟩=some (.int .i64 g.exp)∧w'.cell? ⟨b,o+5,none⟩=some (.int .u64 g.bits)∧w'.cell? ⟨b,o+6,none⟩=some (.string g.text)∧w'.cell? ⟨b,o+7,none⟩=some (.slice a1 m1 d1)∧w'.cell? ⟨b,o+8,none⟩=some (.slice a2 m2 d2)) (first|exact mkS.out _ (by repeat (first|(with_reducible exact Hid.out (by assumption))|(with_reducible refine Tw.drew ?_)|(with_reducible refine Tw.dr ?_)|(with_reducible refine Tw.al ?_)))) (first
  | (go_at_call 54;refine (qt.out _).mono ?_;rintro e w1 ⟨rfl,hb1⟩;have T1:Hid (Tw w ⟨9,fl,ng,dg,ex,bt,tx,nm⟩ (.slice an nm.length cn) (.slice (some ⟨b,o,none⟩) l.length cl) w1):=Tw.then (by repeat (first|(with_reducible exact Hid.out (by assumption))|(with_reducible refine Tw.drew ?_)|(with_reducible refine Tw.dr ?_)|(with_reducible refine Tw.al ?_))) hb1;clear hb1)
  | (go_at_call 53;refine (qu.out _).mono ?_;rintro e w2 ⟨rfl,hb2⟩;have T2:Hid (Tw w ⟨9,fl,ng,dg,ex,bt,tx,nm⟩ (.slice an nm.length cn) (.slice (some ⟨b,o,none⟩) l.length cl) w2):=Tw.then (by repeat (first|(with_reducible exact Hid.out (by assumption))|(with_reducible refine Tw.drew ?_)|(with_reducible refine Tw.dr ?_)|(with_reducible refine Tw.al ?_))) hb2;clear hb2)
  | (go_at_call 27;refine (tg2.out _ (Tw.be (by repeat (first|(with_reducible exact Hid.out (by assumption))|(with_reducible refine Tw.drew ?_)|(with_reducible refine Tw.dr ?_)|(with_reducible refine Tw.al ?_))))).mono ?_;rintro e w3 ⟨rfl,hb3⟩;have T3:Hid (Tw w ⟨9,fl,ng,dg,ex,bt,tx,nm⟩ (.slice an nm.length cn) (.slice (some ⟨b,o,none⟩) l.length cl) w3):=Tw.then (by repeat (first|(with_reducible exact Hid.out (by assumption))|(with_reducible refine Tw.drew ?_)|(with_reducible refine Tw.dr ?_)|(with_reducible refine Tw.al ?_))) hb3;clear hb3))
 all_goals
  go_wp2_with fail
  go_ret
  exact ⟨rfl,Tw.be (by repeat (first|(with_reducible exact Hid.out (by assumption))|(with_reducible refine Tw.drew ?_)|(with_reducible refine Tw.dr ?_)|(with_reducible refine Tw.al ?_)))⟩
end Go.Proofs.YthodiandebahdaaGreatDoor
