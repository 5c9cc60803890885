/- Merged by program: JkVal, JlVal, JmWrite, JnWrite, MkRef. -/
import Derived.Test.YtpimjkdakjhoaaaGreatDoorZw28
namespace Go.Proofs.YtpimjkdakjhoaaaGreatDoor
open Go.RowKit
set_option linter.unusedSimpArgs false
set_option linter.unusedVariables false
set_option maxHeartbeats 8000000
theorem WO.base {i:Nat} {A T:List UInt8} {W W1 w':World} {e:Ending} (h1:FW i W W1) (h:WO i A T W1 e w'):WO i A T W e w':=⟨h1.trans h.1,h.2⟩
theorem WO.two {i:Nat} {A T:List UInt8} {W w':World} {e:Ending} (h:WO i A T W e w'):(e=.returned (.tuple #[])∨e=.panicked (pan 2)):=by
 rcases h with ⟨_,⟨_,q,_⟩|⟨_,q⟩⟩
 ·exact Or.inl q
 ·exact Or.inr q
theorem Tab.of {w0 W:World} (h:Tab w0.heap.size w0) (hb:Below w0.heap.size w0 W):Tab W.heap.size W:=Tab.up (h.on hb) hb.size
set_option maxRecDepth 100000 in
theorem jval_1 (n:Nat) (vo:ValOk n) (h:Hd) (l:List (VT n)) (ns ls:Value) (w0 W:World) (i:Nat) (A:List UInt8) (hc:Vc (n + 1) ((h,l):VT (n + 1)) ns ls w0 i W) (hk:h.kind=1) (hW:WB W i A) (hA:A.length≤65536) :
  Calls Tryz.prog 25 #[.pointer (some ⟨i,0,none⟩),.agg (vals h ns ls)] W fun e w'=>WO i A (jtx (n + 1) ((h,l):VT (n + 1))) W e w':=by
 have hiW:=hW.lt
 have hloi:=hc.lo
 obtain ⟨al,cl,rfl,hl1,hl2⟩:=hc.rd.len
 obtain ⟨an,cn,rfl,hn1,hn2⟩:=hc.rd.1.len
 have X0:=hide (fun o=>hW.below (below_al (o:=o) (Below.refl W.heap.size W)))
 have F0:Hid (∀ o,FW i W (W.alloc o)):=fun o=>FW.al (FW.refl _ _) hiW
 have B0:Hid (∀ o,Below w0.heap.size w0 (W.alloc o)):=fun o=>hc.be.trans ((below_al (Below.refl W.heap.size W)).mono hc.be.size)
 have hW':=hide hW
 have hA':=hide hA
 have hc':=hide hc
 have tz:=hide hc.vo.2.1.1
 have hj:=hide (show jtx (n + 1) ((h,l):VT (n + 1))=[110,117,108,108] by
  show (if h.kind=1 then _ else _)=_
  rw [if_pos hk]
  first|done|rfl)
 obtain ⟨kd,fl,ng,dg,ex,bt,tx,nm⟩:=h
 simp only at hk hj tz
 subst hk
 clear vo hc hW hA
 show Calls _ _ #[_,.agg #[.int .i64 1,.bool fl,.bool ng,.string dg,.int .i64 ex,.int .u64 bt,.string tx,.slice an nm.length cn,.slice al l.length cl]] _ _
 go_enter Tryz.func25, Tryz.ntmps25
 go_wp2_with (go_at_call 41;refine Sto.out ?_)
 refine Sto.mk ((put_all ⟨#[110,117,108,108]⟩ A _ i (X0.out _) hA'.out).mono ?_)
 rintro e w2 hw
 replace hw:WO i A ([110,117,108,108]) _ e w2:=hw
 have K:Hid (WO i A (jtx (n + 1) ((⟨1,fl,ng,dg,ex,bt,tx,nm⟩,l):VT (n + 1))) W e w2):=by show WO _ _ _ _ _ _;rw [hj.out];exact WO.base (F0.out _) hw
 rcases hw.two with rfl|rfl
 ·clear hw
  go_wp2_with fail
  go_end0
  exact K.out
 ·clear hw
  go_wp2_with fail
  exact ⟨rfl,K.out⟩
set_option maxRecDepth 100000 in
theorem jval_2 (n:Nat) (vo:ValOk n) (h:Hd) (l:List (VT n)) (ns ls:Value) (w0 W:World) (i:Nat) (A:List UInt8) (hc:Vc (n + 1) ((h,l):VT (n + 1)) ns ls w0 i W) (hk:h.kind=2) (hW:WB W i A) (hA:A.length≤65536) :
  Calls Tryz.prog 25 #[.pointer (some ⟨i,0,none⟩),.agg (vals h ns ls)] W fun e w'=>WO i A (jtx (n + 1) ((h,l):VT (n + 1))) W e w':=by
 have hiW:=hW.lt
 have hloi:=hc.lo
 obtain ⟨al,cl,rfl,hl1,hl2⟩:=hc.rd.len
 obtain ⟨an,cn,rfl,hn1,hn2⟩:=hc.rd.1.len
 have X0:=hide (fun o=>hW.below (below_al (o:=o) (Below.refl W.heap.size W)))
 have F0:Hid (∀ o,FW i W (W.alloc o)):=fun o=>FW.al (FW.refl _ _) hiW
 have B0:Hid (∀ o,Below w0.heap.size w0 (W.alloc o)):=fun o=>hc.be.trans ((below_al (Below.refl W.heap.size W)).mono hc.be.size)
 have hW':=hide hW
 have hA':=hide hA
 have hc':=hide hc
 have tz:=hide hc.vo.2.1.1
 have hj:=hide (show jtx (n + 1) ((h,l):VT (n + 1))=flgL h.flag by
  show (if h.kind=1 then _ else _)=_
  rw [if_neg (show ¬ h.kind=1 by omega),if_pos hk]
  first|done|rfl)
 obtain ⟨kd,fl,ng,dg,ex,bt,tx,nm⟩:=h
 simp only at hk hj tz
 subst hk
 clear vo hc hW hA
 show Calls _ _ #[_,.agg #[.int .i64 2,.bool fl,.bool ng,.string dg,.int .i64 ex,.int .u64 bt,.string tx,.slice an nm.length cn,.slice al l.length cl]] _ _
 go_enter Tryz.func25, Tryz.ntmps25
 go_wp2_with (go_at_call 42;refine Sto.out ?_)
 refine Sto.mk ((flag_any fl A _ i (X0.out _) hA'.out).mono ?_)
 rintro e w2 hw
 replace hw:WO i A (flgL fl) _ e w2:=hw
 have K:Hid (WO i A (jtx (n + 1) ((⟨2,fl,ng,dg,ex,bt,tx,nm⟩,l):VT (n + 1))) W e w2):=by show WO _ _ _ _ _ _;rw [hj.out];exact WO.base (F0.out _) hw
 rcases hw.two with rfl|rfl
 ·clear hw
  go_wp2_with fail
  go_end0
  exact K.out
 ·clear hw
  go_wp2_with fail
  exact ⟨rfl,K.out⟩
set_option maxRecDepth 100000 in
theorem jval_3 (n:Nat) (vo:ValOk n) (h:Hd) (l:List (VT n)) (ns ls:Value) (w0 W:World) (i:Nat) (A:List UInt8) (hc:Vc (n + 1) ((h,l):VT (n + 1)) ns ls w0 i W) (hk:h.kind=3) (hW:WB W i A) (hA:A.length≤65536) :
  Calls Tryz.prog 25 #[.pointer (some ⟨i,0,none⟩),.agg (vals h ns ls)] W fun e w'=>WO i A (jtx (n + 1) ((h,l):VT (n + 1))) W e w':=by
 have hiW:=hW.lt
 have hloi:=hc.lo
 obtain ⟨al,cl,rfl,hl1,hl2⟩:=hc.rd.len
 obtain ⟨an,cn,rfl,hn1,hn2⟩:=hc.rd.1.len
 have X0:=hide (fun o=>hW.below (below_al (o:=o) (Below.refl W.heap.size W)))
 have F0:Hid (∀ o,FW i W (W.alloc o)):=fun o=>FW.al (FW.refl _ _) hiW
 have B0:Hid (∀ o,Below w0.heap.size w0 (W.alloc o)):=fun o=>hc.be.trans ((below_al (Below.refl W.heap.size W)).mono hc.be.size)
 have hW':=hide hW
 have hA':=hide hA
 have hc':=hide hc
 have tz:=hide hc.vo.2.1.1
 have hj:=hide (show jtx (n + 1) ((h,l):VT (n + 1))=printL h.neg (bl h.dig) h.exp by
  show (if h.kind=1 then _ else _)=_
  rw [if_neg (show ¬ h.kind=1 by omega),if_neg (show ¬ h.kind=2 by omega),if_pos hk]
  first|done|rfl)
 have hN:isN h.neg h.dig h.exp=true:=hc.vo.1.2.1.1 hk
 have pr:=hide (fun o=>print_any h.neg h.dig h.exp (W.alloc o) hN (Tab.of hc.tab (B0.out o)))
 obtain ⟨kd,fl,ng,dg,ex,bt,tx,nm⟩:=h
 simp only at hk hj tz hN pr
 subst hk
 clear vo hc hW hA
 show Calls _ _ #[_,.agg #[.int .i64 3,.bool fl,.bool ng,.string dg,.int .i64 ex,.int .u64 bt,.string tx,.slice an nm.length cn,.slice al l.length cl]] _ _
 go_enter Tryz.func25, Tryz.ntmps25
 obtain ⟨S,hS⟩:∃ S,mkB (printL ng (bl dg) ex)=S:=⟨_,rfl⟩
 have hSb:Hid (bl S=printL ng (bl dg) ex):=by show _=_;rw [←hS];rfl
 rw [hS] at pr
 clear hS hN
 go_wp2_with (go_at_call 43;refine Sto.out ?_)
 refine Sto.mk ((pr.out _).mono ?_)
 rintro e w1 ⟨rfl,hb1⟩
 have F1:Hid (FW i W w1):=(F0.out _).trans (FW.of hb1 (by simp;omega))
 have X1:Hid (WB w1 i A):=(X0.out _).below hb1
 clear hb1
 go_wp2_with (go_at_call 41;refine Sto.out ?_)
 refine Sto.mk ((put_all S A _ i X1.out hA'.out).mono ?_)
 rintro e w2 hw
 replace hw:WO i A (bl S) _ e w2:=hw
 have K:Hid (WO i A (jtx (n + 1) ((⟨3,fl,ng,dg,ex,bt,tx,nm⟩,l):VT (n + 1))) W e w2):=by show WO _ _ _ _ _ _;rw [hj.out,←hSb.out];exact WO.base F1.out hw
 rcases hw.two with rfl|rfl
 ·clear hw
  go_wp2_with fail
  go_end0
  exact K.out
 ·clear hw
  go_wp2_with fail
  exact ⟨rfl,K.out⟩
set_option maxRecDepth 100000 in
theorem jval_4 (n:Nat) (vo:ValOk n) (h:Hd) (l:List (VT n)) (ns ls:Value) (w0 W:World) (i:Nat) (A:List UInt8) (hc:Vc (n + 1) ((h,l):VT (n + 1)) ns ls w0 i W) (hk:h.kind=4) (hW:WB W i A) (hA:A.length≤65536) :
  Calls Tryz.prog 25 #[.pointer (some ⟨i,0,none⟩),.agg (vals h ns ls)] W fun e w'=>WO i A (jtx (n + 1) ((h,l):VT (n + 1))) W e w':=by
 have hiW:=hW.lt
 have hloi:=hc.lo
 obtain ⟨al,cl,rfl,hl1,hl2⟩:=hc.rd.len
 obtain ⟨an,cn,rfl,hn1,hn2⟩:=hc.rd.1.len
 have X0:=hide (fun o=>hW.below (below_al (o:=o) (Below.refl W.heap.size W)))
 have F0:Hid (∀ o,FW i W (W.alloc o)):=fun o=>FW.al (FW.refl _ _) hiW
 have B0:Hid (∀ o,Below w0.heap.size w0 (W.alloc o)):=fun o=>hc.be.trans ((below_al (Below.refl W.heap.size W)).mono hc.be.size)
 have hW':=hide hW
 have hA':=hide hA
 have hc':=hide hc
 have tz:=hide hc.vo.2.1.1
 have hj:=hide (show jtx (n + 1) ((h,l):VT (n + 1))=nmd dFloat (bl (fhexS h.bits.toNat)) by
  show (if h.kind=1 then _ else _)=_
  rw [if_neg (show ¬ h.kind=1 by omega),if_neg (show ¬ h.kind=2 by omega),if_neg (show ¬ h.kind=3 by omega),if_pos hk]
  first|done|rfl)
 have hR:=hc.vo.2.2
 have hb1:0≤h.bits:=hR.1
 have hb2:h.bits<18446744073709551616:=hR.2.1
 obtain ⟨bn,hbn⟩:∃ bn:Nat,h.bits=(bn:Int):=⟨h.bits.toNat,by omega⟩
 have hbt:=hide (show h.bits.toNat=bn by omega)
 have fx:=hide (fun o=>fhex_any bn (W.alloc o) (by omega))
 have hbn':=hide hbn
 clear hR hb1 hb2
 obtain ⟨kd,fl,ng,dg,ex,bt,tx,nm⟩:=h
 simp only at hk hj tz hbn
 subst hk
 clear vo hc hW hA
 show Calls _ _ #[_,.agg #[.int .i64 4,.bool fl,.bool ng,.string dg,.int .i64 ex,.int .u64 bt,.string tx,.slice an nm.length cn,.slice al l.length cl]] _ _
 subst hbn
 go_enter Tryz.func25, Tryz.ntmps25
 obtain ⟨S,hS⟩:∃ S,fhexS bn=S:=⟨_,rfl⟩
 have hSb:Hid (fhexS bn=S):=hS
 rw [hS] at fx
 clear hS
 go_wp2_with (go_at_call 45;refine Sto.out ?_)
 refine Sto.mk ((fx.out _).mono ?_)
 rintro e w1 ⟨rfl,hb1⟩
 have F1:Hid (FW i W w1):=(F0.out _).trans (FW.of hb1 (by simp;omega))
 have X1:Hid (WB w1 i A):=(X0.out _).below hb1
 clear hb1
 go_wp2_with (go_at_call 44;refine Sto.out ?_)
 refine Sto.mk ((named_any ⟨#[36,102,108,111,97,116]⟩ S A _ i X1.out hA'.out (by decide) (by rw [←hSb.out,←bl_length];simp [fhexS,bl,strOfNums];rw [flowL_len];omega)).mono ?_)
 rintro e w2 hw
 replace hw:WO i A (nmd dFloat (bl S)) _ e w2:=hw
 have K:Hid (WO i A (jtx (n + 1) ((⟨4,fl,ng,dg,ex,bn,tx,nm⟩,l):VT (n + 1))) W e w2):=by show WO _ _ _ _ _ _;rw [hj.out];show WO i A (nmd dFloat (bl (fhexS (Int.toNat (bn:Int))))) W e w2;rw [Int.toNat_natCast,hSb.out];exact WO.base F1.out hw
 rcases hw.two with rfl|rfl
 ·clear hw
  go_wp2_with fail
  go_end0
  exact K.out
 ·clear hw
  go_wp2_with fail
  exact ⟨rfl,K.out⟩
set_option maxRecDepth 100000 in
theorem jval_5 (n:Nat) (vo:ValOk n) (h:Hd) (l:List (VT n)) (ns ls:Value) (w0 W:World) (i:Nat) (A:List UInt8) (hc:Vc (n + 1) ((h,l):VT (n + 1)) ns ls w0 i W) (hk:h.kind=5) (hW:WB W i A) (hA:A.length≤65536) :
  Calls Tryz.prog 25 #[.pointer (some ⟨i,0,none⟩),.agg (vals h ns ls)] W fun e w'=>WO i A (jtx (n + 1) ((h,l):VT (n + 1))) W e w':=by
 have hiW:=hW.lt
 have hloi:=hc.lo
 obtain ⟨al,cl,rfl,hl1,hl2⟩:=hc.rd.len
 obtain ⟨an,cn,rfl,hn1,hn2⟩:=hc.rd.1.len
 have X0:=hide (fun o=>hW.below (below_al (o:=o) (Below.refl W.heap.size W)))
 have F0:Hid (∀ o,FW i W (W.alloc o)):=fun o=>FW.al (FW.refl _ _) hiW
 have B0:Hid (∀ o,Below w0.heap.size w0 (W.alloc o)):=fun o=>hc.be.trans ((below_al (Below.refl W.heap.size W)).mono hc.be.size)
 have hW':=hide hW
 have hA':=hide hA
 have hc':=hide hc
 have tz:=hide hc.vo.2.1.1
 have hj:=hide (show jtx (n + 1) ((h,l):VT (n + 1))=quo (bl h.text) by
  show (if h.kind=1 then _ else _)=_
  rw [if_neg (show ¬ h.kind=1 by omega),if_neg (show ¬ h.kind=2 by omega),if_neg (show ¬ h.kind=3 by omega),if_neg (show ¬ h.kind=4 by omega),if_pos hk]
  first|done|rfl)
 obtain ⟨kd,fl,ng,dg,ex,bt,tx,nm⟩:=h
 simp only at hk hj tz
 subst hk
 clear vo hc hW hA
 show Calls _ _ #[_,.agg #[.int .i64 5,.bool fl,.bool ng,.string dg,.int .i64 ex,.int .u64 bt,.string tx,.slice an nm.length cn,.slice al l.length cl]] _ _
 go_enter Tryz.func25, Tryz.ntmps25
 go_wp2_with (go_at_call 46;refine Sto.out ?_)
 refine Sto.mk ((text_any tx A _ i (X0.out _) hA'.out (by have:=tz.out;have h2:(tx.size:Int)≤4096:=this;omega)).mono ?_)
 rintro e w2 hw
 replace hw:WO i A (quo (bl tx)) _ e w2:=hw
 have K:Hid (WO i A (jtx (n + 1) ((⟨5,fl,ng,dg,ex,bt,tx,nm⟩,l):VT (n + 1))) W e w2):=by show WO _ _ _ _ _ _;rw [hj.out];exact WO.base (F0.out _) hw
 rcases hw.two with rfl|rfl
 ·clear hw
  go_wp2_with fail
  go_end0
  exact K.out
 ·clear hw
  go_wp2_with fail
  exact ⟨rfl,K.out⟩
set_option maxRecDepth 100000 in
theorem jval_6 (n:Nat) (vo:ValOk n) (h:Hd) (l:List (VT n)) (ns ls:Value) (w0 W:World) (i:Nat) (A:List UInt8) (hc:Vc (n + 1) ((h,l):VT (n + 1)) ns ls w0 i W) (hk:h.kind=6) (hW:WB W i A) (hA:A.length≤65536) :
  Calls Tryz.prog 25 #[.pointer (some ⟨i,0,none⟩),.agg (vals h ns ls)] W fun e w'=>WO i A (jtx (n + 1) ((h,l):VT (n + 1))) W e w':=by
 have hiW:=hW.lt
 have hloi:=hc.lo
 obtain ⟨al,cl,rfl,hl1,hl2⟩:=hc.rd.len
 obtain ⟨an,cn,rfl,hn1,hn2⟩:=hc.rd.1.len
 have X0:=hide (fun o=>hW.below (below_al (o:=o) (Below.refl W.heap.size W)))
 have F0:Hid (∀ o,FW i W (W.alloc o)):=fun o=>FW.al (FW.refl _ _) hiW
 have B0:Hid (∀ o,Below w0.heap.size w0 (W.alloc o)):=fun o=>hc.be.trans ((below_al (Below.refl W.heap.size W)).mono hc.be.size)
 have hW':=hide hW
 have hA':=hide hA
 have hc':=hide hc
 have tz:=hide hc.vo.2.1.1
 have hj:=hide (show jtx (n + 1) ((h,l):VT (n + 1))=nmd dBytes (hexL (bl h.text)) by
  show (if h.kind=1 then _ else _)=_
  rw [if_neg (show ¬ h.kind=1 by omega),if_neg (show ¬ h.kind=2 by omega),if_neg (show ¬ h.kind=3 by omega),if_neg (show ¬ h.kind=4 by omega),if_neg (show ¬ h.kind=5 by omega),if_pos hk]
  first|done|rfl)
 obtain ⟨kd,fl,ng,dg,ex,bt,tx,nm⟩:=h
 simp only at hk hj tz
 subst hk
 clear vo hc hW hA
 show Calls _ _ #[_,.agg #[.int .i64 6,.bool fl,.bool ng,.string dg,.int .i64 ex,.int .u64 bt,.string tx,.slice an nm.length cn,.slice al l.length cl]] _ _
 go_enter Tryz.func25, Tryz.ntmps25
 have tz2:(tx.size:Int)≤4096:=tz.out
 have jx:=hide (fun o=>jhex_any tx (W.alloc o) (by omega))
 have hz6:=hide (show (hexL (bl tx)).length≤8192 by rw [hexL_len,bl_length];omega)
 clear tz2
 obtain ⟨S,hS⟩:∃ S,mkB (hexL (bl tx))=S:=⟨_,rfl⟩
 have hSb:Hid (bl S=hexL (bl tx)):=by show _=_;rw [←hS];rfl
 rw [hS] at jx
 clear hS
 go_wp2_with (go_at_call 47;refine Sto.out ?_)
 refine Sto.mk ((jx.out _).mono ?_)
 rintro e w1 ⟨rfl,hb1⟩
 have F1:Hid (FW i W w1):=(F0.out _).trans (FW.of hb1 (by simp;omega))
 have X1:Hid (WB w1 i A):=(X0.out _).below hb1
 clear hb1
 go_wp2_with (go_at_call 44;refine Sto.out ?_)
 refine Sto.mk ((named_any ⟨#[36,98,121,116,101,115]⟩ S A _ i X1.out hA'.out (by decide) (by rw [←bl_length,hSb.out];have:=hz6.out;omega)).mono ?_)
 rintro e w2 hw
 replace hw:WO i A (nmd dBytes (bl S)) _ e w2:=hw
 have K:Hid (WO i A (jtx (n + 1) ((⟨6,fl,ng,dg,ex,bt,tx,nm⟩,l):VT (n + 1))) W e w2):=by show WO _ _ _ _ _ _;rw [hj.out,←hSb.out];exact WO.base F1.out hw
 rcases hw.two with rfl|rfl
 ·clear hw
  go_wp2_with fail
  go_end0
  exact K.out
 ·clear hw
  go_wp2_with fail
  exact ⟨rfl,K.out⟩
set_option maxRecDepth 100000 in
theorem jval_7 (n:Nat) (vo:ValOk n) (h:Hd) (l:List (VT n)) (ns ls:Value) (w0 W:World) (i:Nat) (A:List UInt8) (hc:Vc (n + 1) ((h,l):VT (n + 1)) ns ls w0 i W) (hk:h.kind=7) (hW:WB W i A) (hA:A.length≤65536) :
  Calls Tryz.prog 25 #[.pointer (some ⟨i,0,none⟩),.agg (vals h ns ls)] W fun e w'=>WO i A (jtx (n + 1) ((h,l):VT (n + 1))) W e w':=by
 have hiW:=hW.lt
 have hloi:=hc.lo
 obtain ⟨al,cl,rfl,hl1,hl2⟩:=hc.rd.len
 obtain ⟨an,cn,rfl,hn1,hn2⟩:=hc.rd.1.len
 have X0:=hide (fun o=>hW.below (below_al (o:=o) (Below.refl W.heap.size W)))
 have F0:Hid (∀ o,FW i W (W.alloc o)):=fun o=>FW.al (FW.refl _ _) hiW
 have B0:Hid (∀ o,Below w0.heap.size w0 (W.alloc o)):=fun o=>hc.be.trans ((below_al (Below.refl W.heap.size W)).mono hc.be.size)
 have hW':=hide hW
 have hA':=hide hA
 have hc':=hide hc
 have tz:=hide hc.vo.2.1.1
 have hj:=hide (show jtx (n + 1) ((h,l):VT (n + 1))=[91]++(jel n l l.length++[93]) by
  show (if h.kind=1 then _ else _)=_
  rw [if_neg (show ¬ h.kind=1 by omega),if_neg (show ¬ h.kind=2 by omega),if_neg (show ¬ h.kind=3 by omega),if_neg (show ¬ h.kind=4 by omega),if_neg (show ¬ h.kind=5 by omega),if_neg (show ¬ h.kind=6 by omega),if_pos hk]
  first|done|rfl)
 have jl:=hide (fun o=>jlist_any n vo h l _ _ w0 (W.alloc o) i A ⟨hc.rd,hc.vo,hc.lo,B0.out o,hc.tab⟩ (X0.out o) hA)
 obtain ⟨kd,fl,ng,dg,ex,bt,tx,nm⟩:=h
 simp only at hk hj tz
 subst hk
 clear vo hc hW hA
 show Calls _ _ #[_,.agg #[.int .i64 7,.bool fl,.bool ng,.string dg,.int .i64 ex,.int .u64 bt,.string tx,.slice an nm.length cn,.slice al l.length cl]] _ _
 go_enter Tryz.func25, Tryz.ntmps25
 go_wp2_with (go_at_call 48;refine Sto.out ?_)
 refine Sto.mk ((jl.out _).mono ?_)
 rintro e w2 hw
 replace hw:WO i A ([91]++(jel n l l.length++[93])) _ e w2:=hw
 have K:Hid (WO i A (jtx (n + 1) ((⟨7,fl,ng,dg,ex,bt,tx,nm⟩,l):VT (n + 1))) W e w2):=by show WO _ _ _ _ _ _;rw [hj.out];exact WO.base (F0.out _) hw
 rcases hw.two with rfl|rfl
 ·clear hw
  go_wp2_with fail
  go_end0
  exact K.out
 ·clear hw
  go_wp2_with fail
  exact ⟨rfl,K.out⟩
set_option maxRecDepth 100000 in
theorem jval_8 (n:Nat) (vo:ValOk n) (h:Hd) (l:List (VT n)) (ns ls:Value) (w0 W:World) (i:Nat) (A:List UInt8) (hc:Vc (n + 1) ((h,l):VT (n + 1)) ns ls w0 i W) (hk:h.kind=8) (hW:WB W i A) (hA:A.length≤65536) :
  Calls Tryz.prog 25 #[.pointer (some ⟨i,0,none⟩),.agg (vals h ns ls)] W fun e w'=>WO i A (jtx (n + 1) ((h,l):VT (n + 1))) W e w':=by
 have hiW:=hW.lt
 have hloi:=hc.lo
 obtain ⟨al,cl,rfl,hl1,hl2⟩:=hc.rd.len
 obtain ⟨an,cn,rfl,hn1,hn2⟩:=hc.rd.1.len
 have X0:=hide (fun o=>hW.below (below_al (o:=o) (Below.refl W.heap.size W)))
 have F0:Hid (∀ o,FW i W (W.alloc o)):=fun o=>FW.al (FW.refl _ _) hiW
 have B0:Hid (∀ o,Below w0.heap.size w0 (W.alloc o)):=fun o=>hc.be.trans ((below_al (Below.refl W.heap.size W)).mono hc.be.size)
 have hW':=hide hW
 have hA':=hide hA
 have hc':=hide hc
 have tz:=hide hc.vo.2.1.1
 have hj:=hide (show jtx (n + 1) ((h,l):VT (n + 1))=[123]++(jrc n h.names l l.length++[125]) by
  show (if h.kind=1 then _ else _)=_
  rw [if_neg (show ¬ h.kind=1 by omega),if_neg (show ¬ h.kind=2 by omega),if_neg (show ¬ h.kind=3 by omega),if_neg (show ¬ h.kind=4 by omega),if_neg (show ¬ h.kind=5 by omega),if_neg (show ¬ h.kind=6 by omega),if_neg (show ¬ h.kind=7 by omega),if_pos hk]
  first|done|rfl)
 have jr:=hide (fun o=>jrec_any n vo h l _ _ w0 (W.alloc o) i A ⟨hc.rd,hc.vo,hc.lo,B0.out o,hc.tab⟩ hk (X0.out o) hA)
 simp only [vals] at jr
 obtain ⟨kd,fl,ng,dg,ex,bt,tx,nm⟩:=h
 simp only at hk hj tz
 subst hk
 clear vo hc hW hA
 show Calls _ _ #[_,.agg #[.int .i64 8,.bool fl,.bool ng,.string dg,.int .i64 ex,.int .u64 bt,.string tx,.slice an nm.length cn,.slice al l.length cl]] _ _
 go_enter Tryz.func25, Tryz.ntmps25
 go_wp2_with (go_at_call 49;refine Sto.out ?_)
 refine Sto.mk ((jr.out _).mono ?_)
 rintro e w2 hw
 replace hw:WO i A ([123]++(jrc n nm l l.length++[125])) _ e w2:=hw
 have K:Hid (WO i A (jtx (n + 1) ((⟨8,fl,ng,dg,ex,bt,tx,nm⟩,l):VT (n + 1))) W e w2):=by show WO _ _ _ _ _ _;rw [hj.out];exact WO.base (F0.out _) hw
 rcases hw.two with rfl|rfl
 ·clear hw
  go_wp2_with fail
  go_end0
  exact K.out
 ·clear hw
  go_wp2_with fail
  exact ⟨rfl,K.out⟩
set_option maxRecDepth 100000 in
theorem jval_9 (n:Nat) (vo:ValOk n) (h:Hd) (l:List (VT n)) (ns ls:Value) (w0 W:World) (i:Nat) (A:List UInt8) (hc:Vc (n + 1) ((h,l):VT (n + 1)) ns ls w0 i W) (hk:h.kind=9) (hW:WB W i A) (hA:A.length≤65536) :
  Calls Tryz.prog 25 #[.pointer (some ⟨i,0,none⟩),.agg (vals h ns ls)] W fun e w'=>WO i A (jtx (n + 1) ((h,l):VT (n + 1))) W e w':=by
 have hiW:=hW.lt
 have hloi:=hc.lo
 obtain ⟨al,cl,rfl,hl1,hl2⟩:=hc.rd.len
 obtain ⟨an,cn,rfl,hn1,hn2⟩:=hc.rd.1.len
 have X0:=hide (fun o=>hW.below (below_al (o:=o) (Below.refl W.heap.size W)))
 have F0:Hid (∀ o,FW i W (W.alloc o)):=fun o=>FW.al (FW.refl _ _) hiW
 have B0:Hid (∀ o,Below w0.heap.size w0 (W.alloc o)):=fun o=>hc.be.trans ((below_al (Below.refl W.heap.size W)).mono hc.be.size)
 have hW':=hide hW
 have hA':=hide hA
 have hc':=hide hc
 have tz:=hide hc.vo.2.1.1
 have hj:=hide (show jtx (n + 1) ((h,l):VT (n + 1))=[123]++(quo dTag++([58,91]++(quo (bl h.text)++([44]++((l[0]?).elim [] (jtx n)++[93,125]))))) by
  show (if h.kind=1 then _ else _)=_
  rw [if_neg (show ¬ h.kind=1 by omega),if_neg (show ¬ h.kind=2 by omega),if_neg (show ¬ h.kind=3 by omega),if_neg (show ¬ h.kind=4 by omega),if_neg (show ¬ h.kind=5 by omega),if_neg (show ¬ h.kind=6 by omega),if_neg (show ¬ h.kind=7 by omega),if_neg (show ¬ h.kind=8 by omega)]
  first|done|rfl)
 have hl1':l.length=1:=(hc.vo.1.2.1.2.2.2 hk).2
 have hl0:0<l.length:=by omega
 obtain ⟨b,o,c,he,hbl,hlc,hcm2,ns',ls',hrg,hrd⟩:=hc.rd.at 0 hl0
 have he':=Value.slice.inj he
 obtain ⟨rfl,_,rfl⟩:=he'
 clear he
 have tg:=hide (fun W1 (b:Below w0.heap.size w0 W1) (x:WB W1 i A)=>jtag_any n vo h.text l[0] _ _ w0 W1 i A ⟨hrd,hc.vo.kid 0 hl0,hc.lo,b,hc.tab⟩ (by have:=tz.out;simp only [hk] at this;have h2:(h.text.size:Int)≤64:=this;omega) x hA)
 have HRG:=hide hrg
 obtain ⟨kd,fl,ng,dg,ex,bt,tx,nm⟩:=h
 simp only at hk hj tz HRG tg
 subst hk
 clear vo hc hW hA
 show Calls _ _ #[_,.agg #[.int .i64 9,.bool fl,.bool ng,.string dg,.int .i64 ex,.int .u64 bt,.string tx,.slice an nm.length cn,.slice (some ⟨b,o,none⟩) l.length cl]] _ _
 go_enter Tryz.func25, Tryz.ntmps25
 obtain ⟨a1,m1,d1,a2,m2,d2,rfl,rfl⟩:=hrd.shape
 obtain ⟨e0,e1,e2,e3,e4,e5,e6,e7,e8⟩:=range9 (rangeAt_below HRG.out hc'.out.be hbl)
 simp only [Nat.zero_mul,Nat.add_zero] at e0 e1 e2 e3 e4 e5 e6 e7 e8
 have hblw:b<W.heap.size:=Nat.lt_of_lt_of_le hbl hc'.out.be.size
 obtain ⟨g,hg⟩:∃ g,vhd n l[0]=g:=⟨_,rfl⟩
 have hg2:vhd n ((⟨9,fl,ng,dg,ex,bt,tx,nm⟩,l):VT (n + 1)).2[0]=g:=hg
 rw [hg2] at e0 e1 e2 e3 e4 e5 e6
 rw [hg] at tg
 simp only [vals] at tg
 have hl0i:(0:Int)<(l.length:Int):=by omega
 have hel:Hid ((l[0]?).elim [] (jtx n)=jtx n l[0]):=by show _=_;rw [List.getElem?_eq_getElem hl0];rfl
 have hl1h:=hide hl1'
 clear hrg hrd hg hg2 hl1'
 go_wp2_with fail
 go_region_with (go_at_call 50;refine (tg.out _ (hc'.out.be.trans ((show Below W.heap.size W _ by repeat (first|exact Below.refl _ _|refine Below.drew ?_|refine below_al ?_)).mono hc'.out.be.size)) (hW'.out.below (show Below W.heap.size W _ by repeat (first|exact Below.refl _ _|refine Below.drew ?_|refine below_al ?_)))).mono ?_;rintro e w2 hw;have K:Hid (WO i A (jtx (n + 1) ((⟨9,fl,ng,dg,ex,bt,tx,nm⟩,l):VT (n + 1))) W e w2):=(by show WO _ _ _ _ _ _;rw [hj.out,hel.out];exact WO.base (FW.of (show Below W.heap.size W _ by repeat (first|exact Below.refl _ _|refine Below.drew ?_|refine below_al ?_)) hiW) hw);rcases hw.two with rfl|rfl;rotate_left;(first|exact ⟨rfl,K.out⟩|(go_simp;exact ⟨rfl,K.out⟩)|(unfold Exit.inBlock;exact ⟨rfl,K.out⟩));clear hw)
 all_goals
  first|(go_wp2_with fail;go_end0;exact K.out)|(go_wp2_with fail;exact ⟨rfl,K.out⟩)
theorem jval_all:∀ n,ValOk n
 | 0=>fun x=>Empty.elim x
 | n + 1=>fun x ns ls w0 W i A hc hW hA=>by
  have vo:=jval_all n
  obtain ⟨h,l⟩:=x
  have k1:1≤h.kind:=hc.vo.1.1.1
  have k9:h.kind≤9:=hc.vo.1.1.2.1
  by_cases q1:h.kind=1
  ·exact jval_1 n vo h l ns ls w0 W i A hc q1 hW hA
  by_cases q2:h.kind=2
  ·exact jval_2 n vo h l ns ls w0 W i A hc q2 hW hA
  by_cases q3:h.kind=3
  ·exact jval_3 n vo h l ns ls w0 W i A hc q3 hW hA
  by_cases q4:h.kind=4
  ·exact jval_4 n vo h l ns ls w0 W i A hc q4 hW hA
  by_cases q5:h.kind=5
  ·exact jval_5 n vo h l ns ls w0 W i A hc q5 hW hA
  by_cases q6:h.kind=6
  ·exact jval_6 n vo h l ns ls w0 W i A hc q6 hW hA
  by_cases q7:h.kind=7
  ·exact jval_7 n vo h l ns ls w0 W i A hc q7 hW hA
  by_cases q8:h.kind=8
  ·exact jval_8 n vo h l ns ls w0 W i A hc q8 hW hA
  exact jval_9 n vo h l ns ls w0 W i A hc (by omega) hW hA
theorem ta_nil (w:World):(Instr.typeAssert .nilIface 20 33 true).run Tryz.prog w=.ok (.tuple #[.int .i64 0,.bool false]) w:=by
 simp [Instr.typeAssert]
theorem ta_err (E:Int) (w:World):(Instr.typeAssert (.iface 33 (.int .i64 E)) 20 33 true).run Tryz.prog w=.ok (.tuple #[.int .i64 E,.bool true]) w:=by
 simp [Instr.typeAssert]
set_option maxRecDepth 100000 in
theorem wcatch_idle (p q:Addr) (w:World) :
  CallsD Tryz.prog 24 #[.pointer (some p),.pointer (some q)] .returning w fun e u' w'=>e=.returned (.tuple #[])∧u'=.returning∧w'=w:=by
 refine callsD_of_wpS Tryz.func24 rfl fun c₀ cs hu=>?_
 apply wpS_seq
 apply wpS_region
 simp [wpOpsS,go_sem,recoverD,hu,Tryz.ntmps24,Exit.thenS,ta_nil]
 apply wpS_seq
 apply wpS_region
 simp [wpOpsS,go_sem,Exit.thenS,Array.replicate]
 refine wpS_cond (t:=false) (by simp [Act.eval,Array.replicate]) ?_
 simp only [Bool.false_eq_true,if_false]
 refine wpS_of_wp (wp_skip ?_)
 cases c₀
 simp_all [bodyPostS,results,Tryz.results24]
set_option maxRecDepth 100000 in
theorem wcatch_pan (p q:Addr) (x:Int) (v:Value) (older:List PanicEntry) (w:World) (hc:w.cell? p=some v) (hz:w.frozen? p=false) (hc2:w.cell? q=some (.int .i64 x)) (hz2:w.frozen? q=false) (hpq:p≠q) (E:Int) :
  CallsD Tryz.prog 24 #[.pointer (some p),.pointer (some q)] (.panicking ({v:=.iface 33 (.int .i64 E),recovered:=false} :: older)) w fun e u' w' =>
   e=.returned (.tuple #[])∧u'=.panicking ({v:=.iface 33 (.int .i64 E),recovered:=true} :: older)∧w'=(w.setCell p (.slice none 0 0)).setCell q (.int .i64 E):=by
 have hc3:(w.setCell p (.slice none 0 0)).cell? q=some (.int .i64 x):=by rw [World.cell?_setCell_other _ _ _ _ hpq];exact hc2
 refine callsD_of_wpS Tryz.func24 rfl fun c₀ cs hu=>?_
 apply wpS_seq
 apply wpS_region
 simp [wpOpsS,go_sem,recoverD,hu,Tryz.ntmps24,Exit.thenS,ta_err]
 apply wpS_seq
 apply wpS_region
 simp [wpOpsS,go_sem,Exit.thenS,Array.replicate]
 refine wpS_cond (t:=true) (by simp [Act.eval,Array.replicate]) ?_
 simp only [if_true]
 apply wpS_region
 simp [wpOpsS,go_sem,hc,hz,hc3,hz2,bodyPostS,results,Tryz.results24]
def JW (n:Nat) (x:VT n) (E:Int) (w:World) (e:Ending) (w':World):Prop :=
 Below w.heap.size w w'∧(E≠0→e=.returned (.tuple #[.slice none 0 0,.int .i64 E]))∧(E=0→((jtx n x).length≤65536→∃ a m c,e=.returned (.tuple #[.slice a m c,.int .i64 0])∧Own w' w.heap.size (.slice a m c) (jtx n x))∧(65536<(jtx n x).length→e=.returned (.tuple #[.slice none 0 0,.int .i64 2])))
theorem ownsRow_low {W:World} {B B' T sz n:Nat} {v:Value} {xs:List Value} (h:W.ownsRow B T sz v n xs) (hb:B'≤B):W.ownsRow B' T sz v n xs:=by
 refine ⟨h.1,?_⟩
 rcases h.2 with h0|⟨g,cap,cur,rfl,h1,h2⟩
 ·exact Or.inl h0
 ·exact Or.inr ⟨g,cap,cur,rfl,Nat.le_trans hb h1,h2⟩
set_option maxRecDepth 100000 in
theorem jwrite_any (n:Nat) (x:VT n) (ns ls:Value) (w:World) (hr:Rdy n w x ns ls) (hg:Rg n x) (g:Ut.Gu w) (ht:Tab w.heap.size w) (E:Int) (hE:Chk n x E) :
  Calls Tryz.prog 10 #[.agg (vals (vhd n x) ns ls)] w fun e w'=>JW n x E w e w':=by
 have hmf:∀ (fn:Fn) (first cap:Array Value) (w:World),(Instr.makeFunc fn first cap).run Tryz.prog w=.ok (.func fn first cap) w:=fun _ _ _ _=>rfl
 have ck:=hide (fun o1 o2 o3=>check_any n x ns ls (((w.alloc o1).alloc o2).alloc o3) (hr.below (below_al (below_al (below_al (Below.refl _ _))))) (g.below (below_al (below_al (below_al (Below.refl _ _))))) E hE)
 obtain ⟨a1,m1,d1,a2,m2,d2,rfl,rfl⟩:=hr.rd.shape
 obtain ⟨h,hh⟩:∃ h,vhd n x=h:=⟨_,rfl⟩
 have hr':=hide hr
 have hg':=hide hg
 have ht':=hide ht
 have hE':=hide hE
 have hh':=hide hh
 rw [hh] at ck ⊢
 simp only [vals] at ck
 clear hr hg ht hE hh g
 show Calls _ _ #[.agg #[.int .i64 h.kind,.bool h.flag,.bool h.neg,.string h.dig,.int .i64 h.exp,.int .u64 h.bits,.string h.text,.slice a1 m1 d1,.slice a2 m2 d2]] _ _
 go_enter_defers Tryz.func10, Tryz.ntmps10
 go_wp2_with (go_at_call 23;refine Sto.out ?_)
 refine Sto.mk ((ck.out _ _ _).mono ?_)
 rintro e w1 ⟨rfl,hb1⟩
 have B1:Hid (Below w.heap.size w w1):=below_then (below_al (below_al (below_al (Below.refl _ _)))) hb1
 have C1:Hid (∀ q,q<w.heap.size + 1 + 1 + 1→w1.heap[q]?=(((w.alloc (.cells (vals h (.slice a1 m1 d1) (.slice a2 m2 d2)) 29)).alloc (.cells #[.slice none 0 0] 32)).alloc (.cells #[.int .i64 0] 33)).heap[q]?):=fun q hq=>hb1.block q (by simpa using hq)
 have z1:w.heap.size + 1 + 1<w1.heap.size:=by have:=hb1.size;simp at this;omega
 have V1:Hid (Bx w1 w.heap.size h (.slice a1 m1 d1) (.slice a2 m2 d2)):=⟨by
  rw [C1.out _ (by omega),Below.heap_alloc _ _ _ (by simp;omega),Below.heap_alloc _ _ _ (by simp)]
  exact heap_alloc_last _ _⟩
 have R1:Hid (w1.heap[w.heap.size + 1]?=some (.cells #[.slice none 0 0] 32 (0,0))):=by
  show _=_
  rw [C1.out _ (by omega),Below.heap_alloc _ _ _ (by simp)]
  have:=heap_alloc_last (w.alloc (.cells (vals h (.slice a1 m1 d1) (.slice a2 m2 d2)) 29)) (.cells #[.slice none 0 0] 32)
  rw [World.size_alloc] at this
  exact this
 have R2:Hid (w1.heap[w.heap.size + 1 + 1]?=some (.cells #[.int .i64 0] 33 (0,0))):=by
  show _=_
  rw [C1.out _ (by omega)]
  have:=heap_alloc_last ((w.alloc (.cells (vals h (.slice a1 m1 d1) (.slice a2 m2 d2)) 29)).alloc (.cells #[.slice none 0 0] 32)) (.cells #[.int .i64 0] 33)
  rw [World.size_alloc,World.size_alloc] at this
  exact this
 have c1:w1.cell? ⟨w.heap.size + 1,0,none⟩=some (.slice none 0 0):=by simp [World.cell?,R1.out]
 have f1:w1.frozen? ⟨w.heap.size + 1,0,none⟩=false:=by simp [World.frozen?,R1.out]
 have c2:w1.cell? ⟨w.heap.size + 1 + 1,0,none⟩=some (.int .i64 0):=by simp [World.cell?,R2.out]
 have f2:w1.frozen? ⟨w.heap.size + 1 + 1,0,none⟩=false:=by simp [World.frozen?,R2.out]
 clear hb1 ck
 by_cases e0:E=0
 ·have ne0:(E != 0)=false:=by simpa using e0
  obtain ⟨hi,hw0⟩:IsV n x∧Win n x:=by
   rcases hE'.out with ⟨q,_⟩|⟨q,_⟩|⟨_,q1,q2⟩
   ·omega
   ·omega
   ·exact ⟨q1,q2⟩
  have vk:=hide (fun W (b:Below w.heap.size w W) i (hi2:w.heap.size≤i) (y:WB W i [])=>jval_all n x (.slice a1 m1 d1) (.slice a2 m2 d2) w W i [] ⟨hr'.out.rd,⟨hi,hw0.1,hg'.out⟩,hi2,b,ht'.out⟩ y (by simp))
  rw [hh'.out] at vk
  simp only [vals] at vk
  obtain ⟨v0,v1,v2,v3,v4,v5,v6,v7,v8⟩:=V1.out.cells
  have e0':=hide e0
  clear e0 hi hw0
  have zz1:w.heap.size<w1.heap.size:=by omega
  have zz2:w.heap.size + 1<w1.heap.size:=by omega
  go_wp2_with (go_at_call 25;refine Sto.out ?_)
  refine Sto.mk ((vk.out _ (below_al B1.out) w1.heap.size (by omega) ⟨.slice none 0 0,heap_alloc_last _ _,own_nil _ _⟩).mono ?_)
  rintro e w2 hw
  have R1':Hid (w2.heap[w.heap.size + 1]?=some (.cells #[.slice none 0 0] 32 (0,0))):=by show _=_;rw [hw.1.1.block _ (by omega),Below.heap_alloc _ _ _ (by omega)];exact R1.out
  have R2':Hid (w2.heap[w.heap.size + 1 + 1]?=some (.cells #[.int .i64 0] 33 (0,0))):=by show _=_;rw [hw.1.1.block _ (by omega),Below.heap_alloc _ _ _ (by omega)];exact R2.out
  have B2:Hid (Below w.heap.size w w2):=(below_al B1.out).trans (hw.1.1.mono (by omega))
  clear c1 f1 c2 f2 v0 v1 v2 v3 v4 v5 v6 v7 v8
  have c1:w2.cell? ⟨w.heap.size + 1,0,none⟩=some (.slice none 0 0):=by simp [World.cell?,R1'.out]
  have f1:w2.frozen? ⟨w.heap.size + 1,0,none⟩=false:=by simp [World.frozen?,R1'.out]
  have c2:w2.cell? ⟨w.heap.size + 1 + 1,0,none⟩=some (.int .i64 0):=by simp [World.cell?,R2'.out]
  have f2:w2.frozen? ⟨w.heap.size + 1 + 1,0,none⟩=false:=by simp [World.frozen?,R2'.out]
  have n12:w.heap.size + 1≠w.heap.size + 1 + 1:=by omega
  obtain ⟨hf,⟨q1,rfl,v',hv',ho'⟩|⟨q1,rfl⟩⟩:=hw
  ·obtain ⟨b1,b2,b3,rfl⟩:∃ b1 b2 b3,v'=.slice b1 b2 b3:=by
    rcases ho'.2 with ⟨rfl,e⟩|⟨g,cap,cur,rfl,_⟩
    ·exact ⟨_,_,_,rfl⟩
    ·exact ⟨_,_,_,rfl⟩
   have c3:w2.cell? ⟨w1.heap.size,0,none⟩=some (.slice b1 b2 b3):=by simp [World.cell?,hv']
   have O2:=hide ho'
   have Q1:=hide q1
   clear hf hv' ho' q1
   go_wp2_with fail
   refine leaves_cons (f:=24) (args:=#[.pointer (some ⟨w.heap.size + 1,0,none⟩),.pointer (some ⟨w.heap.size + 1 + 1,0,none⟩)]) (by simp) (by simp [go_sem]) ?_
   refine (wcatch_idle ⟨w.heap.size + 1,0,none⟩ ⟨w.heap.size + 1 + 1,0,none⟩ _).mono ?_
   rintro e u' w'' ⟨rfl,rfl,rfl⟩
   simp [Leaves,settle,results,Tryz.results10,go_sem, *]
   have hbb:Below w.heap.size w ((w2.setCell ⟨w.heap.size + 1,0,none⟩ (.slice b1 b2 b3)).setCell ⟨w.heap.size + 1 + 1,0,none⟩ (.int .i64 0)):=(B2.out.setCell (p:=⟨w.heap.size + 1,0,none⟩) (show w.heap.size≤w.heap.size + 1 by omega) _).setCell (p:=⟨w.heap.size + 1 + 1,0,none⟩) (show w.heap.size≤w.heap.size + 1 + 1 by omega) _
   refine ⟨hbb,fun q=>absurd e0'.out q,fun _=>⟨fun _=>⟨b1,b2,b3,rfl,?_⟩,fun q=>(by have:=Q1.out;simp at this;omega)⟩⟩
   have ho:=O2.out
   rw [List.nil_append] at ho
   have hlt:=World.ownsRow.lt ho
   refine ownsRow_of (ownsRow_low ho (by omega)) fun g e hg=>?_
   have:=(hlt g e).1
   rw [heap_set_ne (by omega),heap_set_ne (by omega)]
  ·have Q1:=hide q1
   clear hf q1
   go_wp2_with fail
   unfold pan
   refine leaves_cons (f:=24) (args:=#[.pointer (some ⟨w.heap.size + 1,0,none⟩),.pointer (some ⟨w.heap.size + 1 + 1,0,none⟩)]) (by simp) (by simp [go_sem]) ?_
   refine (wcatch_pan ⟨w.heap.size + 1,0,none⟩ ⟨w.heap.size + 1 + 1,0,none⟩ 0 (.slice none 0 0) [] _ c1 f1 c2 f2 (by simp) 2).mono ?_
   rintro e u' w'' ⟨rfl,rfl,rfl⟩
   simp [Leaves,settle,results,Tryz.results10,go_sem, *]
   have hbb:Below w.heap.size w ((w2.setCell ⟨w.heap.size + 1,0,none⟩ (.slice none 0 0)).setCell ⟨w.heap.size + 1 + 1,0,none⟩ (.int .i64 2)):=(B2.out.setCell (p:=⟨w.heap.size + 1,0,none⟩) (show w.heap.size≤w.heap.size + 1 by omega) _).setCell (p:=⟨w.heap.size + 1 + 1,0,none⟩) (show w.heap.size≤w.heap.size + 1 + 1 by omega) _
   exact ⟨hbb,fun q=>absurd e0'.out q,fun _=>⟨fun q=>(by have:=Q1.out;simp at this;omega),fun _=>rfl⟩⟩
 ·have ne0:(E != 0)=true:=by simpa using e0
  have n12:w.heap.size + 1≠w.heap.size + 1 + 1:=by omega
  go_wp2_with fail
  simp [bodyPostD,Leaves,settle,results,Tryz.results10,go_sem, *]
  have hbb:Below w.heap.size w ((w1.setCell ⟨w.heap.size + 1,0,none⟩ (.slice none 0 0)).setCell ⟨w.heap.size + 1 + 1,0,none⟩ (.int .i64 E)):=(B1.out.setCell (p:=⟨w.heap.size + 1,0,none⟩) (show w.heap.size≤w.heap.size + 1 by omega) _).setCell (p:=⟨w.heap.size + 1 + 1,0,none⟩) (show w.heap.size≤w.heap.size + 1 + 1 by omega) _
  exact ⟨hbb,fun _=>rfl,fun q=>absurd q e0⟩
theorem jtx_len:∀ (n:Nat) (x:VT n),IsV n x→Sht n x→(jtx n x).length≤200000 * siz n x
 | 0,x,_,_=>Empty.elim x
 | n + 1,(h,l),hv,hs=>by
  have ih:∀ y∈l,(jtx n y).length≤200000 * siz n y:=fun y hy=>jtx_len n y (hv.2.2 y hy) (hs.2.2.2 y hy)
  have hsz:siz (n + 1) ((h,l):VT (n + 1))=1 + suml (l.map (siz n)):=rfl
  have hl:l.length≤256:=hs.2.1
  have htx:(h.text.size:Int)≤4096:=by
   have q:(h.text.size:Int)≤(bif h.kind==9 then 64 else 4096):=hs.1
   cases hq:(h.kind==9) <;> rw [hq] at q <;> simp only [cond_true,cond_false] at q <;> omega
  have hq:=quo_len (bl h.text)
  rw [bl_length] at hq
  have hd:∀ a,(quo a).length=(quo a).length:=fun _=>rfl
  rw [hsz,Nat.mul_add]
  show (if h.kind=1 then _ else _:List UInt8).length≤_
  by_cases q1:h.kind=1
  ·rw [if_pos q1];simp;omega
  rw [if_neg q1]
  by_cases q2:h.kind=2
  ·rw [if_pos q2]
   show (flgL h.flag).length≤_
   have:(flgL h.flag).length≤5:=by cases h.flag <;> simp [flgL]
   omega
  rw [if_neg q2]
  by_cases q3:h.kind=3
  ·rw [if_pos q3]
   have:=print_len h.neg h.dig h.exp (hv.2.1.1 q3)
   show (printL h.neg (bl h.dig) h.exp).length≤_
   omega
  rw [if_neg q3]
  have hn:∀ a b,(nmd a b).length≤(quo a).length + (quo b).length + 3:=fun a b=>by simp [nmd];omega
  by_cases q4:h.kind=4
  ·rw [if_pos q4]
   show (nmd dFloat (bl (fhexS h.bits.toNat))).length≤_
   have h1:=hn dFloat (bl (fhexS h.bits.toNat))
   have h2:=quo_len dFloat
   have h3:=quo_len (bl (fhexS h.bits.toNat))
   have h4:(bl (fhexS h.bits.toNat)).length=16:=by rw [bl_length];unfold fhexS;rw [strOfNums_size,List.length_map,flowL_len]
   have h5:dFloat.length=6:=rfl
   omega
  rw [if_neg q4]
  by_cases q5:h.kind=5
  ·rw [if_pos q5]
   show (quo (bl h.text)).length≤_
   omega
  rw [if_neg q5]
  by_cases q6:h.kind=6
  ·rw [if_pos q6]
   show (nmd dBytes (hexL (bl h.text))).length≤_
   have h1:=hn dBytes (hexL (bl h.text))
   have h2:=quo_len dBytes
   have h3:=quo_len (hexL (bl h.text))
   have h4:(hexL (bl h.text)).length=2 * h.text.size:=by rw [hexL_len,bl_length]
   have h5:dBytes.length=6:=rfl
   omega
  rw [if_neg q6]
  by_cases q7:h.kind=7
  ·rw [if_pos q7]
   show ([91]++(jel n l l.length++[93])).length≤_
   have h1:=jel_len n l 200000 ih l.length (Nat.le_refl _)
   rw [List.take_length] at h1
   simp only [List.length_append,List.length_singleton]
   omega
  rw [if_neg q7]
  by_cases q8:h.kind=8
  ·rw [if_pos q8]
   show ([123]++(jrc n h.names l l.length++[125])).length≤_
   have h1:=jrc_len n h.names l 200000 (hv.2.1.2.2.1 q8).1 hs.2.2.1 ih l.length (Nat.le_refl _)
   rw [List.take_length] at h1
   simp only [List.length_append,List.length_singleton]
   omega
  rw [if_neg q8]
  have k9:h.kind=9:=by have a:1≤h.kind:=hv.1.1;have b:h.kind≤9:=hv.1.2.1;omega
  have hl1:l.length=1:=(hv.2.1.2.2.2 k9).2
  show ([123]++(quo dTag++([58,91]++(quo (bl h.text)++([44]++((l[0]?).elim [] (jtx n)++[93,125])))))).length≤_
  match l,hl1,ih with
  | [y],_,ih =>
   have h1:=ih y (by simp)
   have h2:=quo_len dTag
   have h5:dTag.length=4:=rfl
   simp only [List.length_append,List.length_singleton,List.length_cons,List.length_nil,List.getElem?_cons_zero,Option.elim_some,List.map_cons,List.map_nil,suml,Nat.add_zero]
   omega
theorem conv_by (w:World) (J:List UInt8):∃ c W',(convert 9 32 (.string (mkB J))).run Tryz.prog w=.ok (.slice (some ⟨w.heap.size,0,none⟩) J.length c) W'∧Below w.heap.size w W' ∧
  ∀ W,Below W'.heap.size W' W→(convert 32 9 (.slice (some ⟨w.heap.size,0,none⟩) J.length c)).run Tryz.prog W=.ok (.string (mkB J)) W:=by
 have h:=run_bytes_of_string (P:=Tryz.prog) w 9 32 5 (mkB J) Tryz.underlying9 Tryz.underlying32 Tryz.underlying5
 rw [mkB_size] at h
 refine ⟨_,_,h,below_al (Below.refl _ _).drew,fun W hb=>?_⟩
 refine run_convert_bytes_back W 32 9 5 ⟨w.heap.size,0,none⟩ _ J Tryz.underlying32 Tryz.underlying5 Tryz.underlying9 fun j hj=>?_
 rw [show (⟨w.heap.size,0,none⟩:Addr).add j=⟨w.heap.size,j,none⟩ by unfold Addr.add;split <;> simp_all]
 rw [hb.cell (p:=⟨w.heap.size,j,none⟩) (by show w.heap.size<(w.heap.push _).size;simp)]
 unfold World.cell?
 rw [show (w.drew.alloc (.cells (bytesRow (mkB J) (grownCap w J.length 0 5)) 5 ((bytesRow (mkB J) (grownCap w J.length 0 5)).size,(bytesRow (mkB J) (grownCap w J.length 0 5)).size + 1))).heap[w.heap.size]?=some (.cells (bytesRow (mkB J) (grownCap w J.length 0 5)) 5 ((bytesRow (mkB J) (grownCap w J.length 0 5)).size,(bytesRow (mkB J) (grownCap w J.length 0 5)).size + 1)) by show (w.heap.push _)[w.heap.size]?=_;simp]
 show (bytesRow (mkB J) (grownCap w J.length 0 5))[j]?=_
 unfold bytesRow
 rw [Array.getElem?_append_left (by simp [mkB];exact hj)]
 simp [mkB,hj]
end Go.Proofs.YtpimjkdakjhoaaaGreatDoor
