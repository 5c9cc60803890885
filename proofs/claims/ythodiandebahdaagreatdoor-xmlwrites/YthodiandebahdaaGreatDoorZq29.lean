/- Merged by program: YoVal. -/
import Derived.Test.YthodiandebahdaaGreatDoorZq25
namespace Go.Proofs.YthodiandebahdaaGreatDoor
open Go.RowKit
set_option linter.unusedSimpArgs false
set_option linter.unusedVariables false
set_option maxHeartbeats 8000000
theorem print_len (n:Bool)(s:ByteArray)(x:Int)(h:isN n s x=true):(printL n (bl s) x).length≤512:=by
 obtain ⟨_,h1,h40,hx1,hx2,_⟩:=isN_all h
 have hs:(sgnB n).length≤1:=by cases n <;> simp [sgnB]
 have hil:=Lib.itoa_length_le (x+s.size - 1) (by omega) (by omega)
 unfold printL
 rw [List.length_append,bl_length]
 split
 ·rw [List.length_append,List.length_replicate,bl_length];omega
 ·split
  ·have:(pointed (bl s) (-x).toNat).length≤200:=by
    unfold pointed
    split <;> simp [bl_length] <;> omega
   omega
  ·have:(powered (bl s) (Lib.itoa (x+s.size - 1))).length≤200:=by
    unfold powered
    split <;> simp [bl_length] <;> omega
   omega
theorem Tab.of1 {w0 W:World} (h:Tab w0.heap.size w0)(hb:Below w0.heap.size w0 W):Tab W.heap.size W:=Tab.up (h.on hb) hb.size
set_option maxRecDepth 100000 in
theorem xval_1 (n:Nat)(vo:ValX n)(h:Hd)(l:List (VT n))(ns ls:Value)(w0 W:World)(i:Nat)(A:List UInt8)(hc:Vx (n+1) ((h,l):VT (n+1)) ns ls w0 i W)(hk:h.kind=1)(hW:WB W i A)(hA:A.length≤65536) :
  Calls Tryz.prog 25 #[.agg #[.pointer (some ⟨i,0,none⟩)],.agg (vals h ns ls)] W fun e w'=>WO i A (xtx (n+1) ((h,l):VT (n+1))) W e w':=by
 have hiW:=hW.lt
 have B0:=hide (fun o1 o2=>below_al (o:=o2) (below_al (o:=o1) (Below.refl W.heap.size W)))
 have X0:=hide (fun o1 o2=>hW.below (B0.out o1 o2))
 have F0:Hid (∀ o1 o2,FW i W ((W.alloc o1).alloc o2)):=fun o1 o2=>FW.of (B0.out o1 o2) hiW
 have N0:Hid (∀ o1 o2,NB W.heap.size ((W.alloc o1).alloc o2) i):=fun o1 o2=>((FW.al (FW.refl i (W.alloc o1)) (by simp;omega)).kept (NB.new hW)).2
 have N0v:Hid (∀ o1 o2,NB (W.heap.size+1) ((W.alloc o1).alloc o2) i):=fun o1 o2=>by
  have:=NB.new (o:=o2) (hW.below (below_al (o:=o1) (Below.refl W.heap.size W)))
  rw [World.size_alloc] at this
  exact this
 have R0:Hid (∀ o2,Rx ((W.alloc (.cells #[.pointer (some ⟨i,0,none⟩)] 56)).alloc o2) W.heap.size i):=fun o2=>(Rx.new W i).of (Below.heap_alloc _ _ _ (by simp))
 have hW':=hide hW
 have hA':=hide hA
 have hc':=hide hc
 have vo':=hide vo
 have hloi:=hc.lo
 obtain ⟨al,cl,rfl,hl1,hl2⟩:=hc.rd.len
 obtain ⟨an,cn,rfl,hn1,hn2⟩:=hc.rd.1.len
 have tz:=hide hc.vo.2.1.1
 have gzW:=hide hc.gzW
 have i8:=hide hc.i8
 have hj:=hide (show xtx (n+1) ((h,l):VT (n+1))=mNull by
  show (if h.kind=1 then _ else _)=_
  rw [if_pos hk]
  first|done|rfl)
 obtain ⟨kd,fl,ng,dg,ex,bt,tx,nm⟩:=h
 simp only at hk hj tz
 subst hk
 clear vo hc hW hA
 show Calls _ _ #[_,.agg #[.int .i64 1,.bool fl,.bool ng,.string dg,.int .i64 ex,.int .u64 bt,.string tx,.slice an nm.length cn,.slice al l.length cl]] _ _
 go_enter Tryz.func25, Tryz.ntmps25
 go_wp2_with (go_at_call 40;refine Sto.out ?_)
 refine Sto.mk ((put_any ⟨#[60,110,117,108,108,47,62]⟩ A _ i (X0.out _ _) hA'.out (by decide)).mono ?_)
 rintro e w9 hw
 replace hw:WO i A (mNull) _ e w9:=hw
 have K:Hid (WO i A (xtx (n+1) ((⟨1,fl,ng,dg,ex,bt,tx,nm⟩,l):VT (n+1))) W e w9):=by show WO _ _ _ _ _ _;rw [hj.out];exact WO.base1 (F0.out _ _) hw
 rcases hw.two1 with rfl|rfl
 ·clear hw
  go_wp2_with fail
  go_end0
  exact K.out
 ·clear hw
  go_wp2_with fail
  exact ⟨rfl,K.out⟩
set_option maxRecDepth 100000 in
theorem xval_2 (n:Nat)(vo:ValX n)(h:Hd)(l:List (VT n))(ns ls:Value)(w0 W:World)(i:Nat)(A:List UInt8)(hc:Vx (n+1) ((h,l):VT (n+1)) ns ls w0 i W)(hk:h.kind=2)(hW:WB W i A)(hA:A.length≤65536) :
  Calls Tryz.prog 25 #[.agg #[.pointer (some ⟨i,0,none⟩)],.agg (vals h ns ls)] W fun e w'=>WO i A (xtx (n+1) ((h,l):VT (n+1))) W e w':=by
 have hiW:=hW.lt
 have B0:=hide (fun o1 o2=>below_al (o:=o2) (below_al (o:=o1) (Below.refl W.heap.size W)))
 have X0:=hide (fun o1 o2=>hW.below (B0.out o1 o2))
 have F0:Hid (∀ o1 o2,FW i W ((W.alloc o1).alloc o2)):=fun o1 o2=>FW.of (B0.out o1 o2) hiW
 have N0:Hid (∀ o1 o2,NB W.heap.size ((W.alloc o1).alloc o2) i):=fun o1 o2=>((FW.al (FW.refl i (W.alloc o1)) (by simp;omega)).kept (NB.new hW)).2
 have N0v:Hid (∀ o1 o2,NB (W.heap.size+1) ((W.alloc o1).alloc o2) i):=fun o1 o2=>by
  have:=NB.new (o:=o2) (hW.below (below_al (o:=o1) (Below.refl W.heap.size W)))
  rw [World.size_alloc] at this
  exact this
 have R0:Hid (∀ o2,Rx ((W.alloc (.cells #[.pointer (some ⟨i,0,none⟩)] 56)).alloc o2) W.heap.size i):=fun o2=>(Rx.new W i).of (Below.heap_alloc _ _ _ (by simp))
 have hW':=hide hW
 have hA':=hide hA
 have hc':=hide hc
 have vo':=hide vo
 have hloi:=hc.lo
 obtain ⟨al,cl,rfl,hl1,hl2⟩:=hc.rd.len
 obtain ⟨an,cn,rfl,hn1,hn2⟩:=hc.rd.1.len
 have tz:=hide hc.vo.2.1.1
 have gzW:=hide hc.gzW
 have i8:=hide hc.i8
 have hj:=hide (show xtx (n+1) ((h,l):VT (n+1))=xflg h.flag by
  show (if h.kind=1 then _ else _)=_
  rw [if_neg (show ¬ h.kind=1 by omega),if_pos hk]
  first|done|rfl)
 obtain ⟨kd,fl,ng,dg,ex,bt,tx,nm⟩:=h
 simp only at hk hj tz
 subst hk
 clear vo hc hW hA
 show Calls _ _ #[_,.agg #[.int .i64 2,.bool fl,.bool ng,.string dg,.int .i64 ex,.int .u64 bt,.string tx,.slice an nm.length cn,.slice al l.length cl]] _ _
 go_enter Tryz.func25, Tryz.ntmps25
 go_wp2_with (go_at_call 41;refine Sto.out ?_)
 refine Sto.mk ((xflag_any fl A _ i (X0.out _ _) hA'.out).mono ?_)
 rintro e w9 hw
 replace hw:WO i A (xflg fl) _ e w9:=hw
 have K:Hid (WO i A (xtx (n+1) ((⟨2,fl,ng,dg,ex,bt,tx,nm⟩,l):VT (n+1))) W e w9):=by show WO _ _ _ _ _ _;rw [hj.out];exact WO.base1 (F0.out _ _) hw
 rcases hw.two1 with rfl|rfl
 ·clear hw
  go_wp2_with fail
  go_end0
  exact K.out
 ·clear hw
  go_wp2_with fail
  exact ⟨rfl,K.out⟩
set_option maxRecDepth 100000 in
theorem xval_3 (n:Nat)(vo:ValX n)(h:Hd)(l:List (VT n))(ns ls:Value)(w0 W:World)(i:Nat)(A:List UInt8)(hc:Vx (n+1) ((h,l):VT (n+1)) ns ls w0 i W)(hk:h.kind=3)(hW:WB W i A)(hA:A.length≤65536) :
  Calls Tryz.prog 25 #[.agg #[.pointer (some ⟨i,0,none⟩)],.agg (vals h ns ls)] W fun e w'=>WO i A (xtx (n+1) ((h,l):VT (n+1))) W e w':=by
 have hiW:=hW.lt
 have B0:=hide (fun o1 o2=>below_al (o:=o2) (below_al (o:=o1) (Below.refl W.heap.size W)))
 have X0:=hide (fun o1 o2=>hW.below (B0.out o1 o2))
 have F0:Hid (∀ o1 o2,FW i W ((W.alloc o1).alloc o2)):=fun o1 o2=>FW.of (B0.out o1 o2) hiW
 have N0:Hid (∀ o1 o2,NB W.heap.size ((W.alloc o1).alloc o2) i):=fun o1 o2=>((FW.al (FW.refl i (W.alloc o1)) (by simp;omega)).kept (NB.new hW)).2
 have N0v:Hid (∀ o1 o2,NB (W.heap.size+1) ((W.alloc o1).alloc o2) i):=fun o1 o2=>by
  have:=NB.new (o:=o2) (hW.below (below_al (o:=o1) (Below.refl W.heap.size W)))
  rw [World.size_alloc] at this
  exact this
 have R0:Hid (∀ o2,Rx ((W.alloc (.cells #[.pointer (some ⟨i,0,none⟩)] 56)).alloc o2) W.heap.size i):=fun o2=>(Rx.new W i).of (Below.heap_alloc _ _ _ (by simp))
 have hW':=hide hW
 have hA':=hide hA
 have hc':=hide hc
 have vo':=hide vo
 have hloi:=hc.lo
 obtain ⟨al,cl,rfl,hl1,hl2⟩:=hc.rd.len
 obtain ⟨an,cn,rfl,hn1,hn2⟩:=hc.rd.1.len
 have tz:=hide hc.vo.2.1.1
 have gzW:=hide hc.gzW
 have i8:=hide hc.i8
 have hj:=hide (show xtx (n+1) ((h,l):VT (n+1))=mNum++(printL h.neg (bl h.dig) h.exp++mNumE) by
  show (if h.kind=1 then _ else _)=_
  rw [if_neg (show ¬ h.kind=1 by omega),if_neg (show ¬ h.kind=2 by omega),if_pos hk]
  first|done|rfl)
 have hN:isN h.neg h.dig h.exp=true:=hc.vo.1.2.1.1 hk
 have pr:=hide (fun o1 o2=>print_any h.neg h.dig h.exp ((W.alloc o1).alloc o2) hN (Tab.of1 hc.tab (hc.be.trans ((B0.out o1 o2).mono hc.be.size))))
 obtain ⟨kd,fl,ng,dg,ex,bt,tx,nm⟩:=h
 simp only at hk hj tz hN pr
 subst hk
 clear vo hc hW hA
 show Calls _ _ #[_,.agg #[.int .i64 3,.bool fl,.bool ng,.string dg,.int .i64 ex,.int .u64 bt,.string tx,.slice an nm.length cn,.slice al l.length cl]] _ _
 obtain ⟨S,hS⟩:∃ S,mkB (printL ng (bl dg) ex)=S:=⟨_,rfl⟩
 have hSb:Hid (bl S=printL ng (bl dg) ex):=by show _=_;rw [←hS];rfl
 have hSz:Hid (S.size≤281474976710656):=by
  show _≤_
  rw [←bl_length,hSb.out]
  have:=print_len _ _ _ hN
  omega
 rw [hS] at pr
 clear hS hN
 go_enter Tryz.func25, Tryz.ntmps25
 go_wp2_with (go_at_call 42;refine Sto.out ?_)
 refine Sto.mk ((pr.out _ _).mono ?_)
 rintro e w1 ⟨rfl,hb1⟩
 have F1:Hid (FW i W w1):=(F0.out _ _).trans (FW.of hb1 (by simp;omega))
 have X1:Hid (WB w1 i A):=(X0.out _ _).below hb1
 have cp:=((R0.out _).of (W1:=w1) (hb1.block _ (by simp;omega))).cell
 clear hb1
 go_wp2_with (go_at_call 43;refine Sto.out ?_)
 refine Sto.mk ((xdig_any ⟨#[60,110,117,109,62]⟩ S ⟨#[60,47,110,117,109,62]⟩ (by decide) hSz.out (by decide) A _ i X1.out hA'.out).mono ?_)
 rintro e w9 hw
 replace hw:WO i A (mNum++(bl S++mNumE)) _ e w9:=hw
 have K:Hid (WO i A (xtx (n+1) ((⟨3,fl,ng,dg,ex,bt,tx,nm⟩,l):VT (n+1))) W e w9):=by show WO _ _ _ _ _ _;rw [hj.out,←hSb.out];exact WO.base1 F1.out hw
 rcases hw.two1 with rfl|rfl
 ·clear hw
  go_wp2_with fail
  go_end0
  exact K.out
 ·clear hw
  go_wp2_with fail
  exact ⟨rfl,K.out⟩
set_option maxRecDepth 100000 in
theorem xval_4 (n:Nat)(vo:ValX n)(h:Hd)(l:List (VT n))(ns ls:Value)(w0 W:World)(i:Nat)(A:List UInt8)(hc:Vx (n+1) ((h,l):VT (n+1)) ns ls w0 i W)(hk:h.kind=4)(hW:WB W i A)(hA:A.length≤65536) :
  Calls Tryz.prog 25 #[.agg #[.pointer (some ⟨i,0,none⟩)],.agg (vals h ns ls)] W fun e w'=>WO i A (xtx (n+1) ((h,l):VT (n+1))) W e w':=by
 have hiW:=hW.lt
 have B0:=hide (fun o1 o2=>below_al (o:=o2) (below_al (o:=o1) (Below.refl W.heap.size W)))
 have X0:=hide (fun o1 o2=>hW.below (B0.out o1 o2))
 have F0:Hid (∀ o1 o2,FW i W ((W.alloc o1).alloc o2)):=fun o1 o2=>FW.of (B0.out o1 o2) hiW
 have N0:Hid (∀ o1 o2,NB W.heap.size ((W.alloc o1).alloc o2) i):=fun o1 o2=>((FW.al (FW.refl i (W.alloc o1)) (by simp;omega)).kept (NB.new hW)).2
 have N0v:Hid (∀ o1 o2,NB (W.heap.size+1) ((W.alloc o1).alloc o2) i):=fun o1 o2=>by
  have:=NB.new (o:=o2) (hW.below (below_al (o:=o1) (Below.refl W.heap.size W)))
  rw [World.size_alloc] at this
  exact this
 have R0:Hid (∀ o2,Rx ((W.alloc (.cells #[.pointer (some ⟨i,0,none⟩)] 56)).alloc o2) W.heap.size i):=fun o2=>(Rx.new W i).of (Below.heap_alloc _ _ _ (by simp))
 have hW':=hide hW
 have hA':=hide hA
 have hc':=hide hc
 have vo':=hide vo
 have hloi:=hc.lo
 obtain ⟨al,cl,rfl,hl1,hl2⟩:=hc.rd.len
 obtain ⟨an,cn,rfl,hn1,hn2⟩:=hc.rd.1.len
 have tz:=hide hc.vo.2.1.1
 have gzW:=hide hc.gzW
 have i8:=hide hc.i8
 have hj:=hide (show xtx (n+1) ((h,l):VT (n+1))=mFloat++(bl (fhexS h.bits.toNat)++mFloatE) by
  show (if h.kind=1 then _ else _)=_
  rw [if_neg (show ¬ h.kind=1 by omega),if_neg (show ¬ h.kind=2 by omega),if_neg (show ¬ h.kind=3 by omega),if_pos hk]
  first|done|rfl)
 have hR:=hc.vo.2.2
 have hb1:0≤h.bits:=hR.1
 have hb2:h.bits<18446744073709551616:=hR.2.1
 obtain ⟨bn,hbn⟩:∃ bn:Nat,h.bits=(bn:Int):=⟨h.bits.toNat,by omega⟩
 have fx:=hide (fun w=>fhex_any bn w (by omega))
 clear hR hb1 hb2
 obtain ⟨kd,fl,ng,dg,ex,bt,tx,nm⟩:=h
 simp only at hk hj tz hbn
 subst hk
 clear vo hc hW hA
 show Calls _ _ #[_,.agg #[.int .i64 4,.bool fl,.bool ng,.string dg,.int .i64 ex,.int .u64 bt,.string tx,.slice an nm.length cn,.slice al l.length cl]] _ _
 subst hbn
 obtain ⟨S,hS⟩:∃ S,fhexS bn=S:=⟨_,rfl⟩
 have hSb:Hid (fhexS bn=S):=hS
 have hSz:Hid (S.size≤281474976710656):=by show _≤_;rw [←hSb.out,←bl_length];simp [fhexS,bl,strOfNums];rw [flowL_len];omega
 rw [hS] at fx
 clear hS
 go_enter Tryz.func25, Tryz.ntmps25
 go_wp2_with fail
 go_region_with (first|(go_at_call 44;refine (fx.out _).mono ?_;rintro e w5 ⟨rfl,hb5⟩;have B5:Hid (Below W.heap.size W w5):=below_then (by repeat (first|exact Below.refl _ _|refine Below.drew ?_|refine below_al ?_)) hb5;have cp:=((R0.out _).of (W1:=w5) (hb5.block _ (by simp;omega))).cell;clear hb5)|(go_at_call 43;refine (xdig_any ⟨#[60,102,108,111,97,116,62]⟩ S ⟨#[60,47,102,108,111,97,116,62]⟩ (by decide) hSz.out (by decide) A _ i (hW'.out.below (below_then B5.out (by repeat (first|exact Below.refl _ _|refine Below.drew ?_|refine below_al ?_)))) hA'.out).mono ?_;rintro e w9 hw;have K:Hid (WO i A (xtx (n+1) ((⟨4,fl,ng,dg,ex,bn,tx,nm⟩,l):VT (n+1))) W e w9):=(by show WO _ _ _ _ _ _;rw [hj.out];show WO i A (mFloat++(bl (fhexS (Int.toNat (bn:Int)))++mFloatE)) W e w9;rw [Int.toNat_natCast,hSb.out];exact WO.base1 (FW.of (below_then B5.out (by repeat (first|exact Below.refl _ _|refine Below.drew ?_|refine below_al ?_))) hiW) hw);rcases hw.two1 with rfl|rfl;rotate_left;(first|exact ⟨rfl,K.out⟩|(go_simp;exact ⟨rfl,K.out⟩)|(unfold Exit.inBlock;exact ⟨rfl,K.out⟩));clear hw))
 all_goals
  first|(go_wp2_with fail;go_end0;exact K.out)|(go_wp2_with fail;exact ⟨rfl,K.out⟩)
set_option maxRecDepth 100000 in
theorem xval_5 (n:Nat)(vo:ValX n)(h:Hd)(l:List (VT n))(ns ls:Value)(w0 W:World)(i:Nat)(A:List UInt8)(hc:Vx (n+1) ((h,l):VT (n+1)) ns ls w0 i W)(hk:h.kind=5)(hW:WB W i A)(hA:A.length≤65536) :
  Calls Tryz.prog 25 #[.agg #[.pointer (some ⟨i,0,none⟩)],.agg (vals h ns ls)] W fun e w'=>WO i A (xtx (n+1) ((h,l):VT (n+1))) W e w':=by
 have hiW:=hW.lt
 have B0:=hide (fun o1 o2=>below_al (o:=o2) (below_al (o:=o1) (Below.refl W.heap.size W)))
 have X0:=hide (fun o1 o2=>hW.below (B0.out o1 o2))
 have F0:Hid (∀ o1 o2,FW i W ((W.alloc o1).alloc o2)):=fun o1 o2=>FW.of (B0.out o1 o2) hiW
 have N0:Hid (∀ o1 o2,NB W.heap.size ((W.alloc o1).alloc o2) i):=fun o1 o2=>((FW.al (FW.refl i (W.alloc o1)) (by simp;omega)).kept (NB.new hW)).2
 have N0v:Hid (∀ o1 o2,NB (W.heap.size+1) ((W.alloc o1).alloc o2) i):=fun o1 o2=>by
  have:=NB.new (o:=o2) (hW.below (below_al (o:=o1) (Below.refl W.heap.size W)))
  rw [World.size_alloc] at this
  exact this
 have R0:Hid (∀ o2,Rx ((W.alloc (.cells #[.pointer (some ⟨i,0,none⟩)] 56)).alloc o2) W.heap.size i):=fun o2=>(Rx.new W i).of (Below.heap_alloc _ _ _ (by simp))
 have hW':=hide hW
 have hA':=hide hA
 have hc':=hide hc
 have vo':=hide vo
 have hloi:=hc.lo
 obtain ⟨al,cl,rfl,hl1,hl2⟩:=hc.rd.len
 obtain ⟨an,cn,rfl,hn1,hn2⟩:=hc.rd.1.len
 have tz:=hide hc.vo.2.1.1
 have gzW:=hide hc.gzW
 have i8:=hide hc.i8
 have hj:=hide (show xtx (n+1) ((h,l):VT (n+1))=mText++(xeL (bl h.text)++mTextE) by
  show (if h.kind=1 then _ else _)=_
  rw [if_neg (show ¬ h.kind=1 by omega),if_neg (show ¬ h.kind=2 by omega),if_neg (show ¬ h.kind=3 by omega),if_neg (show ¬ h.kind=4 by omega),if_pos hk]
  first|done|rfl)
 obtain ⟨kd,fl,ng,dg,ex,bt,tx,nm⟩:=h
 simp only at hk hj tz
 subst hk
 clear vo hc hW hA
 show Calls _ _ #[_,.agg #[.int .i64 5,.bool fl,.bool ng,.string dg,.int .i64 ex,.int .u64 bt,.string tx,.slice an nm.length cn,.slice al l.length cl]] _ _
 go_enter Tryz.func25, Tryz.ntmps25
 go_wp2_with (go_at_call 45;refine Sto.out ?_)
 refine Sto.mk ((xchars_any ⟨#[60,116,101,120,116,62]⟩ tx ⟨#[60,47,116,101,120,116,62]⟩ (by decide) (by have:=tz.out;have h2:(tx.size:Int)≤4096:=this;omega) (by decide) _ (gzW.out.low (B0.out _ _) gzW.out.low8) A i i8.out (X0.out _ _) hA'.out).mono ?_)
 rintro e w9 hw
 replace hw:WO i A (mText++(xeL (bl tx)++mTextE)) _ e w9:=hw
 have K:Hid (WO i A (xtx (n+1) ((⟨5,fl,ng,dg,ex,bt,tx,nm⟩,l):VT (n+1))) W e w9):=by show WO _ _ _ _ _ _;rw [hj.out];exact WO.base1 (F0.out _ _) hw
 rcases hw.two1 with rfl|rfl
 ·clear hw
  go_wp2_with fail
  go_end0
  exact K.out
 ·clear hw
  go_wp2_with fail
  exact ⟨rfl,K.out⟩
set_option maxRecDepth 100000 in
theorem xval_6 (n:Nat)(vo:ValX n)(h:Hd)(l:List (VT n))(ns ls:Value)(w0 W:World)(i:Nat)(A:List UInt8)(hc:Vx (n+1) ((h,l):VT (n+1)) ns ls w0 i W)(hk:h.kind=6)(hW:WB W i A)(hA:A.length≤65536) :
  Calls Tryz.prog 25 #[.agg #[.pointer (some ⟨i,0,none⟩)],.agg (vals h ns ls)] W fun e w'=>WO i A (xtx (n+1) ((h,l):VT (n+1))) W e w':=by
 have hiW:=hW.lt
 have B0:=hide (fun o1 o2=>below_al (o:=o2) (below_al (o:=o1) (Below.refl W.heap.size W)))
 have X0:=hide (fun o1 o2=>hW.below (B0.out o1 o2))
 have F0:Hid (∀ o1 o2,FW i W ((W.alloc o1).alloc o2)):=fun o1 o2=>FW.of (B0.out o1 o2) hiW
 have N0:Hid (∀ o1 o2,NB W.heap.size ((W.alloc o1).alloc o2) i):=fun o1 o2=>((FW.al (FW.refl i (W.alloc o1)) (by simp;omega)).kept (NB.new hW)).2
 have N0v:Hid (∀ o1 o2,NB (W.heap.size+1) ((W.alloc o1).alloc o2) i):=fun o1 o2=>by
  have:=NB.new (o:=o2) (hW.below (below_al (o:=o1) (Below.refl W.heap.size W)))
  rw [World.size_alloc] at this
  exact this
 have R0:Hid (∀ o2,Rx ((W.alloc (.cells #[.pointer (some ⟨i,0,none⟩)] 56)).alloc o2) W.heap.size i):=fun o2=>(Rx.new W i).of (Below.heap_alloc _ _ _ (by simp))
 have hW':=hide hW
 have hA':=hide hA
 have hc':=hide hc
 have vo':=hide vo
 have hloi:=hc.lo
 obtain ⟨al,cl,rfl,hl1,hl2⟩:=hc.rd.len
 obtain ⟨an,cn,rfl,hn1,hn2⟩:=hc.rd.1.len
 have tz:=hide hc.vo.2.1.1
 have gzW:=hide hc.gzW
 have i8:=hide hc.i8
 have hj:=hide (show xtx (n+1) ((h,l):VT (n+1))=mBytes++(hexL (bl h.text)++mBytesE) by
  show (if h.kind=1 then _ else _)=_
  rw [if_neg (show ¬ h.kind=1 by omega),if_neg (show ¬ h.kind=2 by omega),if_neg (show ¬ h.kind=3 by omega),if_neg (show ¬ h.kind=4 by omega),if_neg (show ¬ h.kind=5 by omega),if_pos hk]
  first|done|rfl)
 obtain ⟨kd,fl,ng,dg,ex,bt,tx,nm⟩:=h
 simp only at hk hj tz
 subst hk
 clear vo hc hW hA
 show Calls _ _ #[_,.agg #[.int .i64 6,.bool fl,.bool ng,.string dg,.int .i64 ex,.int .u64 bt,.string tx,.slice an nm.length cn,.slice al l.length cl]] _ _
 have tz2:(tx.size:Int)≤4096:=tz.out
 have jx:=hide (fun w=>jhex_any tx w (by omega))
 have hz6:=hide (show (hexL (bl tx)).length≤8192 by rw [hexL_len,bl_length];omega)
 clear tz2
 obtain ⟨S,hS⟩:∃ S,mkB (hexL (bl tx))=S:=⟨_,rfl⟩
 have hSb:Hid (bl S=hexL (bl tx)):=by show _=_;rw [←hS];rfl
 rw [hS] at jx
 clear hS
 go_enter Tryz.func25, Tryz.ntmps25
 go_wp2_with fail
 go_region_with (first|(go_at_call 46;refine (jx.out _).mono ?_;rintro e w5 ⟨rfl,hb5⟩;have B5:Hid (Below W.heap.size W w5):=below_then (by repeat (first|exact Below.refl _ _|refine Below.drew ?_|refine below_al ?_)) hb5;have cp:=((R0.out _).of (W1:=w5) (hb5.block _ (by simp;omega))).cell;clear hb5)|(go_at_call 43;refine (xdig_any ⟨#[60,98,121,116,101,115,62]⟩ S ⟨#[60,47,98,121,116,101,115,62]⟩ (by decide) (by rw [←bl_length,hSb.out];have:=hz6.out;omega) (by decide) A _ i (hW'.out.below (below_then B5.out (by repeat (first|exact Below.refl _ _|refine Below.drew ?_|refine below_al ?_)))) hA'.out).mono ?_;rintro e w9 hw;have K:Hid (WO i A (xtx (n+1) ((⟨6,fl,ng,dg,ex,bt,tx,nm⟩,l):VT (n+1))) W e w9):=(by show WO _ _ _ _ _ _;rw [hj.out,←hSb.out];exact WO.base1 (FW.of (below_then B5.out (by repeat (first|exact Below.refl _ _|refine Below.drew ?_|refine below_al ?_))) hiW) hw);rcases hw.two1 with rfl|rfl;rotate_left;(first|exact ⟨rfl,K.out⟩|(go_simp;exact ⟨rfl,K.out⟩)|(unfold Exit.inBlock;exact ⟨rfl,K.out⟩));clear hw))
 all_goals
  first|(go_wp2_with fail;go_end0;exact K.out)|(go_wp2_with fail;exact ⟨rfl,K.out⟩)
set_option maxRecDepth 100000 in
theorem xval_7 (n:Nat)(vo:ValX n)(h:Hd)(l:List (VT n))(ns ls:Value)(w0 W:World)(i:Nat)(A:List UInt8)(hc:Vx (n+1) ((h,l):VT (n+1)) ns ls w0 i W)(hk:h.kind=7)(hW:WB W i A)(hA:A.length≤65536) :
  Calls Tryz.prog 25 #[.agg #[.pointer (some ⟨i,0,none⟩)],.agg (vals h ns ls)] W fun e w'=>WO i A (xtx (n+1) ((h,l):VT (n+1))) W e w':=by
 have hiW:=hW.lt
 have B0:=hide (fun o1 o2=>below_al (o:=o2) (below_al (o:=o1) (Below.refl W.heap.size W)))
 have X0:=hide (fun o1 o2=>hW.below (B0.out o1 o2))
 have F0:Hid (∀ o1 o2,FW i W ((W.alloc o1).alloc o2)):=fun o1 o2=>FW.of (B0.out o1 o2) hiW
 have N0:Hid (∀ o1 o2,NB W.heap.size ((W.alloc o1).alloc o2) i):=fun o1 o2=>((FW.al (FW.refl i (W.alloc o1)) (by simp;omega)).kept (NB.new hW)).2
 have N0v:Hid (∀ o1 o2,NB (W.heap.size+1) ((W.alloc o1).alloc o2) i):=fun o1 o2=>by
  have:=NB.new (o:=o2) (hW.below (below_al (o:=o1) (Below.refl W.heap.size W)))
  rw [World.size_alloc] at this
  exact this
 have R0:Hid (∀ o2,Rx ((W.alloc (.cells #[.pointer (some ⟨i,0,none⟩)] 56)).alloc o2) W.heap.size i):=fun o2=>(Rx.new W i).of (Below.heap_alloc _ _ _ (by simp))
 have hW':=hide hW
 have hA':=hide hA
 have hc':=hide hc
 have vo':=hide vo
 have hloi:=hc.lo
 obtain ⟨al,cl,rfl,hl1,hl2⟩:=hc.rd.len
 obtain ⟨an,cn,rfl,hn1,hn2⟩:=hc.rd.1.len
 have tz:=hide hc.vo.2.1.1
 have gzW:=hide hc.gzW
 have i8:=hide hc.i8
 have hj:=hide (show xtx (n+1) ((h,l):VT (n+1))=mList++(xel n l l.length++mListE) by
  show (if h.kind=1 then _ else _)=_
  rw [if_neg (show ¬ h.kind=1 by omega),if_neg (show ¬ h.kind=2 by omega),if_neg (show ¬ h.kind=3 by omega),if_neg (show ¬ h.kind=4 by omega),if_neg (show ¬ h.kind=5 by omega),if_neg (show ¬ h.kind=6 by omega),if_pos hk]
  first|done|rfl)
 have jl:=hide (fun o1 o2=>xlist_any n vo h l _ _ w0 ((W.alloc o1).alloc o2) i A ⟨hc.rd,hc.vo,hc.lo,hc.be.trans ((B0.out o1 o2).mono hc.be.size),hc.tab,hc.gz⟩ (X0.out o1 o2) hA)
 obtain ⟨kd,fl,ng,dg,ex,bt,tx,nm⟩:=h
 simp only at hk hj tz
 subst hk
 clear vo hc hW hA
 show Calls _ _ #[_,.agg #[.int .i64 7,.bool fl,.bool ng,.string dg,.int .i64 ex,.int .u64 bt,.string tx,.slice an nm.length cn,.slice al l.length cl]] _ _
 go_enter Tryz.func25, Tryz.ntmps25
 go_wp2_with (go_at_call 47;refine Sto.out ?_)
 refine Sto.mk ((jl.out _ _).mono ?_)
 rintro e w9 hw
 replace hw:WO i A (mList++(xel n l l.length++mListE)) _ e w9:=hw
 have K:Hid (WO i A (xtx (n+1) ((⟨7,fl,ng,dg,ex,bt,tx,nm⟩,l):VT (n+1))) W e w9):=by show WO _ _ _ _ _ _;rw [hj.out];exact WO.base1 (F0.out _ _) hw
 rcases hw.two1 with rfl|rfl
 ·clear hw
  go_wp2_with fail
  go_end0
  exact K.out
 ·clear hw
  go_wp2_with fail
  exact ⟨rfl,K.out⟩
set_option maxRecDepth 100000 in
theorem xval_8 (n:Nat)(vo:ValX n)(h:Hd)(l:List (VT n))(ns ls:Value)(w0 W:World)(i:Nat)(A:List UInt8)(hc:Vx (n+1) ((h,l):VT (n+1)) ns ls w0 i W)(hk:h.kind=8)(hW:WB W i A)(hA:A.length≤65536) :
  Calls Tryz.prog 25 #[.agg #[.pointer (some ⟨i,0,none⟩)],.agg (vals h ns ls)] W fun e w'=>WO i A (xtx (n+1) ((h,l):VT (n+1))) W e w':=by
 have hiW:=hW.lt
 have B0:=hide (fun o1 o2=>below_al (o:=o2) (below_al (o:=o1) (Below.refl W.heap.size W)))
 have X0:=hide (fun o1 o2=>hW.below (B0.out o1 o2))
 have F0:Hid (∀ o1 o2,FW i W ((W.alloc o1).alloc o2)):=fun o1 o2=>FW.of (B0.out o1 o2) hiW
 have N0:Hid (∀ o1 o2,NB W.heap.size ((W.alloc o1).alloc o2) i):=fun o1 o2=>((FW.al (FW.refl i (W.alloc o1)) (by simp;omega)).kept (NB.new hW)).2
 have N0v:Hid (∀ o1 o2,NB (W.heap.size+1) ((W.alloc o1).alloc o2) i):=fun o1 o2=>by
  have:=NB.new (o:=o2) (hW.below (below_al (o:=o1) (Below.refl W.heap.size W)))
  rw [World.size_alloc] at this
  exact this
 have R0:Hid (∀ o2,Rx ((W.alloc (.cells #[.pointer (some ⟨i,0,none⟩)] 56)).alloc o2) W.heap.size i):=fun o2=>(Rx.new W i).of (Below.heap_alloc _ _ _ (by simp))
 have hW':=hide hW
 have hA':=hide hA
 have hc':=hide hc
 have vo':=hide vo
 have hloi:=hc.lo
 obtain ⟨al,cl,rfl,hl1,hl2⟩:=hc.rd.len
 obtain ⟨an,cn,rfl,hn1,hn2⟩:=hc.rd.1.len
 have tz:=hide hc.vo.2.1.1
 have gzW:=hide hc.gzW
 have i8:=hide hc.i8
 have hj:=hide (show xtx (n+1) ((h,l):VT (n+1))=mRec++(xrc n h.names l l.length++mRecE) by
  show (if h.kind=1 then _ else _)=_
  rw [if_neg (show ¬ h.kind=1 by omega),if_neg (show ¬ h.kind=2 by omega),if_neg (show ¬ h.kind=3 by omega),if_neg (show ¬ h.kind=4 by omega),if_neg (show ¬ h.kind=5 by omega),if_neg (show ¬ h.kind=6 by omega),if_neg (show ¬ h.kind=7 by omega),if_pos hk]
  first|done|rfl)
 have jr:=hide (fun o1 o2=>xrec_any n vo h l _ _ w0 ((W.alloc o1).alloc o2) i A ⟨hc.rd,hc.vo,hc.lo,hc.be.trans ((B0.out o1 o2).mono hc.be.size),hc.tab,hc.gz⟩ hk (X0.out o1 o2) hA)
 simp only [vals] at jr
 obtain ⟨kd,fl,ng,dg,ex,bt,tx,nm⟩:=h
 simp only at hk hj tz
 subst hk
 clear vo hc hW hA
 show Calls _ _ #[_,.agg #[.int .i64 8,.bool fl,.bool ng,.string dg,.int .i64 ex,.int .u64 bt,.string tx,.slice an nm.length cn,.slice al l.length cl]] _ _
 go_enter Tryz.func25, Tryz.ntmps25
 go_wp2_with (go_at_call 48;refine Sto.out ?_)
 refine Sto.mk ((jr.out _ _).mono ?_)
 rintro e w9 hw
 replace hw:WO i A (mRec++(xrc n nm l l.length++mRecE)) _ e w9:=hw
 have K:Hid (WO i A (xtx (n+1) ((⟨8,fl,ng,dg,ex,bt,tx,nm⟩,l):VT (n+1))) W e w9):=by show WO _ _ _ _ _ _;rw [hj.out];exact WO.base1 (F0.out _ _) hw
 rcases hw.two1 with rfl|rfl
 ·clear hw
  go_wp2_with fail
  go_end0
  exact K.out
 ·clear hw
  go_wp2_with fail
  exact ⟨rfl,K.out⟩
set_option maxRecDepth 100000 in
theorem xval_9 (n:Nat)(vo:ValX n)(h:Hd)(l:List (VT n))(ns ls:Value)(w0 W:World)(i:Nat)(A:List UInt8)(hc:Vx (n+1) ((h,l):VT (n+1)) ns ls w0 i W)(hk:h.kind=9)(hW:WB W i A)(hA:A.length≤65536) :
  Calls Tryz.prog 25 #[.agg #[.pointer (some ⟨i,0,none⟩)],.agg (vals h ns ls)] W fun e w'=>WO i A (xtx (n+1) ((h,l):VT (n+1))) W e w':=by
 have hiW:=hW.lt
 have B0:=hide (fun o1 o2=>below_al (o:=o2) (below_al (o:=o1) (Below.refl W.heap.size W)))
 have X0:=hide (fun o1 o2=>hW.below (B0.out o1 o2))
 have F0:Hid (∀ o1 o2,FW i W ((W.alloc o1).alloc o2)):=fun o1 o2=>FW.of (B0.out o1 o2) hiW
 have N0:Hid (∀ o1 o2,NB W.heap.size ((W.alloc o1).alloc o2) i):=fun o1 o2=>((FW.al (FW.refl i (W.alloc o1)) (by simp;omega)).kept (NB.new hW)).2
 have N0v:Hid (∀ o1 o2,NB (W.heap.size+1) ((W.alloc o1).alloc o2) i):=fun o1 o2=>by
  have:=NB.new (o:=o2) (hW.below (below_al (o:=o1) (Below.refl W.heap.size W)))
  rw [World.size_alloc] at this
  exact this
 have R0:Hid (∀ o2,Rx ((W.alloc (.cells #[.pointer (some ⟨i,0,none⟩)] 56)).alloc o2) W.heap.size i):=fun o2=>(Rx.new W i).of (Below.heap_alloc _ _ _ (by simp))
 have hW':=hide hW
 have hA':=hide hA
 have hc':=hide hc
 have vo':=hide vo
 have hloi:=hc.lo
 obtain ⟨al,cl,rfl,hl1,hl2⟩:=hc.rd.len
 obtain ⟨an,cn,rfl,hn1,hn2⟩:=hc.rd.1.len
 have tz:=hide hc.vo.2.1.1
 have gzW:=hide hc.gzW
 have i8:=hide hc.i8
 have hj:=hide (show xtx (n+1) ((h,l):VT (n+1))=mTag++(xeL (bl h.text)++(mNameE++((l[0]?).elim [] (xtx n)++mTagE))) by
  show (if h.kind=1 then _ else _)=_
  rw [if_neg (show ¬ h.kind=1 by omega),if_neg (show ¬ h.kind=2 by omega),if_neg (show ¬ h.kind=3 by omega),if_neg (show ¬ h.kind=4 by omega),if_neg (show ¬ h.kind=5 by omega),if_neg (show ¬ h.kind=6 by omega),if_neg (show ¬ h.kind=7 by omega),if_neg (show ¬ h.kind=8 by omega)]
  first|done|rfl)
 have hl1':l.length=1:=(hc.vo.1.2.1.2.2.2 hk).2
 have hl0:0<l.length:=by omega
 obtain ⟨b,o,c,he,hbl,hlc,hcm2,ns',ls',hrg,hrd⟩:=hc.rd.at 0 hl0
 have he':=Value.slice.inj he
 obtain ⟨rfl,_,rfl⟩:=he'
 clear he
 have vk:=hide (fun W (b:Below w0.heap.size w0 W) A (x:WB W i A)(a:A.length≤65536)=>vo l[0] _ _ w0 W i A ⟨hrd,hc.vo.kid 0 hl0,hloi,b,hc.tab,hc.gz⟩ x a)
 have HRG:=hide hrg
 have V0:Hid (∀ o1,Bx ((W.alloc o1).alloc (.cells (vals h (.slice an h.names.length cn) (.slice (some ⟨b,o,none⟩) l.length cl)) 29)) (W.heap.size+1) h (.slice an h.names.length cn) (.slice (some ⟨b,o,none⟩) l.length cl)):=fun o1=>by
  have:=bx_new (W.alloc o1) h (.slice an h.names.length cn) (.slice (some ⟨b,o,none⟩) l.length cl)
  rw [World.size_alloc] at this
  exact this
 obtain ⟨kd,fl,ng,dg,ex,bt,tx,nm⟩:=h
 simp only at hk hj tz HRG V0
 subst hk
 clear vo hc hW hA
 show Calls _ _ #[_,.agg #[.int .i64 9,.bool fl,.bool ng,.string dg,.int .i64 ex,.int .u64 bt,.string tx,.slice an nm.length cn,.slice (some ⟨b,o,none⟩) l.length cl]] _ _
 have hel:Hid ((l[0]?).elim [] (xtx n)=xtx n l[0]):=by show _=_;rw [List.getElem?_eq_getElem hl0];rfl
 obtain ⟨a1,m1,d1,a2,m2,d2,rfl,rfl⟩:=hrd.shape
 obtain ⟨g,hg⟩:∃ g,vhd n l[0]=g:=⟨_,rfl⟩
 have hg2:vhd n ((⟨9,fl,ng,dg,ex,bt,tx,nm⟩,l):VT (n+1)).2[0]=g:=hg
 rw [hg2] at HRG
 rw [hg] at vk
 simp only [vals] at vk V0
 have hl0i:(0:Int)<(l.length:Int):=by omega
 have hl1h:=hide hl1'
 have CH:=hide (fun o1 o2=>xchars_any ⟨#[60,116,97,103,32,110,97,109,101,61,34]⟩ tx ⟨#[34,62]⟩ (by decide) (by have:=tz.out;have h2:(tx.size:Int)≤64:=this;omega) (by decide) ((W.alloc o1).alloc o2) (gzW.out.low (B0.out _ _) gzW.out.low8) A i i8.out (X0.out _ _) hA'.out)
 obtain ⟨J9,hJ9⟩:∃ J9,xtx n l[0]=J9:=⟨_,rfl⟩
 rw [hJ9] at vk hel
 rw [hj.out,hel.out]
 clear hrg hrd hg hg2 hl1' hJ9 hj hel
 go_enter Tryz.func25, Tryz.ntmps25
 go_wp2_with (go_at_call 45;refine Sto.out ?_)
 refine Sto.mk ((CH.out _ _).mono ?_)
 rintro e w3 hw3
 replace hw3:WO i A (mTag++(xeL (bl tx)++mNameE)) _ e w3:=hw3
 have kp3:=hide (hw3.1.kept (N0.out _ _))
 have kv3:=hide (hw3.1.kept (N0v.out _ _))
 have hw4:=WO.step (A:=A) (T:=[]) (F0.out _ _) (by simpa using hw3)
 clear hw3 CH
 rcases hw4 with ⟨rfl,g1,g2,g3⟩|⟨rfl,g1,g2⟩
 ·have F3:=hide g1
  have X3:Hid (WB w3 i (A++(mTag++(xeL (bl tx)++mNameE)))):=by show WB _ _ _;simpa using g2
  have L3:Hid ((A++(mTag++(xeL (bl tx)++mNameE))).length≤65536):=by show _≤_;simpa using g3
  have R3:Hid (Rx w3 W.heap.size i):=(R0.out _).of kp3.out.1
  have N3:=hide kp3.out.2
  have V3:Hid (Bx w3 (W.heap.size+1) ⟨9,fl,ng,dg,ex,bt,tx,nm⟩ (.slice an nm.length cn) (.slice (some ⟨b,o,none⟩) l.length cl)):=(V0.out _).nb (i:=i) kv3.out.1
  have B3:Hid (Below w0.heap.size w0 w3):=hc'.out.be.trans (F3.out.1.mono hloi)
  obtain ⟨v0,v1,v2,v3,v4,v5,v6,v7,v8⟩:=V3.out.cells
  obtain ⟨e0,e1,e2,e3,e4,e5,e6,e7,e8⟩:=range9 (rangeAt_below HRG.out B3.out hbl)
  simp only [Nat.zero_mul,Nat.add_zero] at e0 e1 e2 e3 e4 e5 e6 e7 e8
  clear g1 g2 g3 kp3 kv3
  have cp:=R3.out.cell
  have VK:Hid (∀ w,Below w3.heap.size w3 w→Calls Tryz.prog 25 #[.agg #[.pointer (some ⟨i,0,none⟩)],.agg #[.int .i64 g.kind,.bool g.flag,.bool g.neg,.string g.dig,.int .i64 g.exp,.int .u64 g.bits,.string g.text,.slice a1 m1 d1,.slice a2 m2 d2]] w fun e w5=>(e=.returned (.tuple #[])∧FW i W w5∧WB w5 i (A++(mTag++(xeL (bl tx)++mNameE)++J9))∧(A++(mTag++(xeL (bl tx)++mNameE)++J9)).length≤65536∧Rx w5 W.heap.size i)∨(e=.panicked (pan 2)∧WO i A (mTag++(xeL (bl tx)++(mNameE++(J9++mTagE)))) W (.panicked (pan 2)) w5)):=fun w hb=>(vk.out w (B3.out.trans (hb.mono B3.out.size)) _ (X3.out.below hb) L3.out).mono (by
   intro e w5 hw5
   have k0:=(FW.of hb X3.out.lt).kept N3.out
   have kp5:=hw5.1.kept k0.2
   have hw6:=WO.step (A:=A) (F3.out.trans (FW.of hb X3.out.lt)) hw5
   rcases hw6 with ⟨e1,g1,g2,g3⟩|⟨e1,g1,g2⟩
   ·exact Or.inl ⟨e1,g1,g2,g3,(R3.out.of k0.1).of kp5.1⟩
   ·exact Or.inr ⟨e1,WO.pre (A:=A) (T:=mTag++(xeL (bl tx)++mNameE)++J9) (U:=mTag++(xeL (bl tx)++(mNameE++(J9++mTagE)))) g1 (by simp) g2⟩)
  have hblw:b<w3.heap.size:=Nat.lt_of_lt_of_le hbl B3.out.size
  go_wp2_with fail
  go_region_with (go_at_call 25;refine (VK.out _ (by repeat (first|exact Below.refl _ _|refine Below.drew ?_|refine below_al ?_))).mono ?_;rintro e w5 (⟨rfl,q⟩|⟨rfl,q⟩);rotate_left;(first|exact ⟨rfl,q⟩|(go_simp;exact ⟨rfl,q⟩)|(unfold Exit.inBlock;exact ⟨rfl,q⟩));have G5:=hide q;clear q)
  all_goals
   obtain ⟨g1,g2,g3,g4⟩:=G5.out
   have F5:=hide g1
   have X5:=hide g2
   have L5:=hide g3
   have R5:=hide g4
   clear g1 g2 g3 g4 G5 v0 v1 v2 v3 v4 v5 v6 v7 v8 e0 e1 e2 e3 e4 e5 e6 e7 e8 cp
   have cp:=R5.out.cell
   go_wp2_with (go_at_call 40;refine Sto.out ?_)
   refine Sto.mk ((put_any _ _ w5 i X5.out L5.out (by decide)).mono ?_)
   rintro e w7 hw7
   replace hw7:WO i (A++(mTag++(xeL (bl tx)++mNameE)++J9)) mTagE w5 e w7:=hw7
   have hw8:=WO.step (A:=A) F5.out hw7
   clear hw7
   rcases hw8 with ⟨rfl,g1,g2,g3⟩|⟨rfl,g1,g2⟩
   ·have K:Hid (WO i A (mTag++(xeL (bl tx)++(mNameE++(J9++mTagE)))) W (.returned (.tuple #[])) w7):=⟨g1,Or.inl ⟨by simpa using g3,rfl,by simpa using g2⟩⟩
    clear g1 g2 g3
    go_wp2_with fail
    go_end0
    exact K.out
   ·have K:=hide (WO.pre (A:=A) (T:=mTag++(xeL (bl tx)++mNameE)++J9++mTagE) (U:=mTag++(xeL (bl tx)++(mNameE++(J9++mTagE)))) g1 (by simp) g2)
    clear g1 g2
    go_wp2_with fail
    exact ⟨rfl,K.out⟩
 ·have K:=hide (WO.pre (A:=A) (T:=[]++(mTag++(xeL (bl tx)++mNameE))) (U:=mTag++(xeL (bl tx)++(mNameE++(J9++mTagE)))) g1 (by simp) g2)
  clear g1 g2 kp3 kv3
  go_wp2_with fail
  exact ⟨rfl,K.out⟩
theorem xval_all:∀ n,ValX n
 | 0=>fun x=>Empty.elim x
 | n+1=>fun x ns ls w0 W i A hc hW hA=>by
  have vo:=xval_all n
  obtain ⟨h,l⟩:=x
  have k1:1≤h.kind:=hc.vo.1.1.1
  have k9:h.kind≤9:=hc.vo.1.1.2.1
  by_cases q1:h.kind=1
  ·exact xval_1 n vo h l ns ls w0 W i A hc q1 hW hA
  by_cases q2:h.kind=2
  ·exact xval_2 n vo h l ns ls w0 W i A hc q2 hW hA
  by_cases q3:h.kind=3
  ·exact xval_3 n vo h l ns ls w0 W i A hc q3 hW hA
  by_cases q4:h.kind=4
  ·exact xval_4 n vo h l ns ls w0 W i A hc q4 hW hA
  by_cases q5:h.kind=5
  ·exact xval_5 n vo h l ns ls w0 W i A hc q5 hW hA
  by_cases q6:h.kind=6
  ·exact xval_6 n vo h l ns ls w0 W i A hc q6 hW hA
  by_cases q7:h.kind=7
  ·exact xval_7 n vo h l ns ls w0 W i A hc q7 hW hA
  by_cases q8:h.kind=8
  ·exact xval_8 n vo h l ns ls w0 W i A hc q8 hW hA
  exact xval_9 n vo h l ns ls w0 W i A hc (by omega) hW hA
end Go.Proofs.YthodiandebahdaaGreatDoor
