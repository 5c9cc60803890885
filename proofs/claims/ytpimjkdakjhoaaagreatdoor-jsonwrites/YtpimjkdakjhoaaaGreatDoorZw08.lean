/- Merged by program: WfBare, KgUnhex, NzParseA, NzParseB, NzParseC. -/
import Derived.Test.YtpimjkdakjhoaaaGreatDoorZw07
namespace Go.Proofs.YtpimjkdakjhoaaaGreatDoor
open Go.RowKit
set_option linter.unusedSimpArgs false
set_option linter.unusedVariables false
set_option maxHeartbeats 8000000
def zr (k:Int):Hd:=⟨k,false,false,⟨#[]⟩,0,0,⟨#[]⟩,[]⟩
def strip (h:Hd):Hd:=⟨h.kind,bif h.kind==2 then false else h.flag,bif h.kind==3 then false else h.neg,bif h.kind==3 then ⟨#[]⟩ else h.dig,bif h.kind==3 then 0 else h.exp,bif h.kind==4 then 0 else h.bits,bif h.kind==5 || h.kind==6 || h.kind==9 then ⟨#[]⟩ else h.text,bif h.kind==8 then [] else h.names⟩
def Bare {α:Type} (h:Hd) (l:List α):Prop:=1≤h.kind∧h.kind≤9∧strip h=zr h.kind∧(7≤h.kind∨l=[])
theorem rd_zero (n:Nat) (w:World) (k:Int):RD (n + 1) w ((zr k,[]):VT (n + 1)) (.slice none 0 0) (.slice none 0 0):=⟨Or.inl ⟨rfl,rfl⟩,Or.inl ⟨rfl,rfl⟩⟩
set_option maxRecDepth 100000 in
theorem bare_1 (n:Nat) (h:Hd) (l:List (VT n)) (ns ls:Value) (w:World) (hr:RD (n + 1) w (h,l) ns ls) (hk:h.kind=1) :
  Calls Tryz.prog 70 #[.agg (vals h ns ls)] w fun e w'=>TB (Bare h l) w e w':=by
 obtain ⟨a1,m1,d1,a2,m2,d2,rfl,rfl⟩:=hr.shape
 have hr:=hide hr
 have hx:Bare h l↔(({h with kind:=1},l):VT (n + 1))=(zr 1,[]):=by
  obtain ⟨k,f,ng,dg,ex,bt,tx,nm⟩:=h
  simp only at hk
  subst hk
  simp [Bare,strip,zr]
 have hx':=hide hx
 have hE:=hide (fun o=>equal_any (n + 1) ({h with kind:=1},l) (zr 1,[]) (.slice a1 m1 d1) (.slice a2 m2 d2) _ _ (w.alloc o) ⟨(hr.out.below (below_al (o:=o) (Below.refl _ _))).1,(hr.out.below (below_al (o:=o) (Below.refl _ _))).2⟩ (rd_zero n _ 1))
 show Calls _ _ #[.agg #[.int .i64 h.kind,.bool h.flag,.bool h.neg,.string h.dig,.int .i64 h.exp,.int .u64 h.bits,.string h.text,.slice a1 m1 d1,.slice a2 m2 d2]] _ _
 rw [hk]
 clear hx hk
 go_enter Tryz.func70, Tryz.ntmps70
 go_wp2_with (go_at_call 108;refine (hE.out _).mono ?_;rintro e w1 ⟨b,rfl,hT,hb1⟩)
 go_ret
 exact ⟨b,rfl,(show Hid _ from ⟨(fun q=>hx'.out.2 (hT.1 q)),(fun q=>hT.2 (hx'.out.1 q))⟩),below_then (below_al (Below.refl _ _)) hb1⟩
set_option maxRecDepth 100000 in
theorem bare_2 (n:Nat) (h:Hd) (l:List (VT n)) (ns ls:Value) (w:World) (hr:RD (n + 1) w (h,l) ns ls) (hk:h.kind=2) :
  Calls Tryz.prog 70 #[.agg (vals h ns ls)] w fun e w'=>TB (Bare h l) w e w':=by
 obtain ⟨a1,m1,d1,a2,m2,d2,rfl,rfl⟩:=hr.shape
 have hr:=hide hr
 have hx:Bare h l↔(({h with kind:=2,flag:=false},l):VT (n + 1))=(zr 2,[]):=by
  obtain ⟨k,f,ng,dg,ex,bt,tx,nm⟩:=h
  simp only at hk
  subst hk
  simp [Bare,strip,zr]
 have hx':=hide hx
 have hE:=hide (fun o=>equal_any (n + 1) ({h with kind:=2,flag:=false},l) (zr 2,[]) (.slice a1 m1 d1) (.slice a2 m2 d2) _ _ (w.alloc o) ⟨(hr.out.below (below_al (o:=o) (Below.refl _ _))).1,(hr.out.below (below_al (o:=o) (Below.refl _ _))).2⟩ (rd_zero n _ 2))
 show Calls _ _ #[.agg #[.int .i64 h.kind,.bool h.flag,.bool h.neg,.string h.dig,.int .i64 h.exp,.int .u64 h.bits,.string h.text,.slice a1 m1 d1,.slice a2 m2 d2]] _ _
 rw [hk]
 clear hx hk
 go_enter Tryz.func70, Tryz.ntmps70
 go_wp2_with (go_at_call 108;refine (hE.out _).mono ?_;rintro e w1 ⟨b,rfl,hT,hb1⟩)
 go_ret
 exact ⟨b,rfl,(show Hid _ from ⟨(fun q=>hx'.out.2 (hT.1 q)),(fun q=>hT.2 (hx'.out.1 q))⟩),below_then (below_al (Below.refl _ _)) hb1⟩
set_option maxRecDepth 100000 in
theorem bare_3 (n:Nat) (h:Hd) (l:List (VT n)) (ns ls:Value) (w:World) (hr:RD (n + 1) w (h,l) ns ls) (hk:h.kind=3) :
  Calls Tryz.prog 70 #[.agg (vals h ns ls)] w fun e w'=>TB (Bare h l) w e w':=by
 obtain ⟨a1,m1,d1,a2,m2,d2,rfl,rfl⟩:=hr.shape
 have hr:=hide hr
 have hx:Bare h l↔(({h with kind:=3,neg:=false,dig:=⟨#[]⟩,exp:=0},l):VT (n + 1))=(zr 3,[]):=by
  obtain ⟨k,f,ng,dg,ex,bt,tx,nm⟩:=h
  simp only at hk
  subst hk
  simp [Bare,strip,zr]
 have hx':=hide hx
 have hE:=hide (fun o=>equal_any (n + 1) ({h with kind:=3,neg:=false,dig:=⟨#[]⟩,exp:=0},l) (zr 3,[]) (.slice a1 m1 d1) (.slice a2 m2 d2) _ _ (w.alloc o) ⟨(hr.out.below (below_al (o:=o) (Below.refl _ _))).1,(hr.out.below (below_al (o:=o) (Below.refl _ _))).2⟩ (rd_zero n _ 3))
 show Calls _ _ #[.agg #[.int .i64 h.kind,.bool h.flag,.bool h.neg,.string h.dig,.int .i64 h.exp,.int .u64 h.bits,.string h.text,.slice a1 m1 d1,.slice a2 m2 d2]] _ _
 rw [hk]
 clear hx hk
 go_enter Tryz.func70, Tryz.ntmps70
 go_wp2_with (go_at_call 108;refine (hE.out _).mono ?_;rintro e w1 ⟨b,rfl,hT,hb1⟩)
 go_ret
 exact ⟨b,rfl,(show Hid _ from ⟨(fun q=>hx'.out.2 (hT.1 q)),(fun q=>hT.2 (hx'.out.1 q))⟩),below_then (below_al (Below.refl _ _)) hb1⟩
set_option maxRecDepth 100000 in
theorem bare_4 (n:Nat) (h:Hd) (l:List (VT n)) (ns ls:Value) (w:World) (hr:RD (n + 1) w (h,l) ns ls) (hk:h.kind=4) :
  Calls Tryz.prog 70 #[.agg (vals h ns ls)] w fun e w'=>TB (Bare h l) w e w':=by
 obtain ⟨a1,m1,d1,a2,m2,d2,rfl,rfl⟩:=hr.shape
 have hr:=hide hr
 have hx:Bare h l↔(({h with kind:=4,bits:=0},l):VT (n + 1))=(zr 4,[]):=by
  obtain ⟨k,f,ng,dg,ex,bt,tx,nm⟩:=h
  simp only at hk
  subst hk
  simp [Bare,strip,zr]
 have hx':=hide hx
 have hE:=hide (fun o=>equal_any (n + 1) ({h with kind:=4,bits:=0},l) (zr 4,[]) (.slice a1 m1 d1) (.slice a2 m2 d2) _ _ (w.alloc o) ⟨(hr.out.below (below_al (o:=o) (Below.refl _ _))).1,(hr.out.below (below_al (o:=o) (Below.refl _ _))).2⟩ (rd_zero n _ 4))
 show Calls _ _ #[.agg #[.int .i64 h.kind,.bool h.flag,.bool h.neg,.string h.dig,.int .i64 h.exp,.int .u64 h.bits,.string h.text,.slice a1 m1 d1,.slice a2 m2 d2]] _ _
 rw [hk]
 clear hx hk
 go_enter Tryz.func70, Tryz.ntmps70
 go_wp2_with (go_at_call 108;refine (hE.out _).mono ?_;rintro e w1 ⟨b,rfl,hT,hb1⟩)
 go_ret
 exact ⟨b,rfl,(show Hid _ from ⟨(fun q=>hx'.out.2 (hT.1 q)),(fun q=>hT.2 (hx'.out.1 q))⟩),below_then (below_al (Below.refl _ _)) hb1⟩
set_option maxRecDepth 100000 in
theorem bare_5 (n:Nat) (h:Hd) (l:List (VT n)) (ns ls:Value) (w:World) (hr:RD (n + 1) w (h,l) ns ls) (hk:h.kind=5) :
  Calls Tryz.prog 70 #[.agg (vals h ns ls)] w fun e w'=>TB (Bare h l) w e w':=by
 obtain ⟨a1,m1,d1,a2,m2,d2,rfl,rfl⟩:=hr.shape
 have hr:=hide hr
 have hx:Bare h l↔(({h with kind:=5,text:=⟨#[]⟩},l):VT (n + 1))=(zr 5,[]):=by
  obtain ⟨k,f,ng,dg,ex,bt,tx,nm⟩:=h
  simp only at hk
  subst hk
  simp [Bare,strip,zr]
 have hx':=hide hx
 have hE:=hide (fun o=>equal_any (n + 1) ({h with kind:=5,text:=⟨#[]⟩},l) (zr 5,[]) (.slice a1 m1 d1) (.slice a2 m2 d2) _ _ (w.alloc o) ⟨(hr.out.below (below_al (o:=o) (Below.refl _ _))).1,(hr.out.below (below_al (o:=o) (Below.refl _ _))).2⟩ (rd_zero n _ 5))
 show Calls _ _ #[.agg #[.int .i64 h.kind,.bool h.flag,.bool h.neg,.string h.dig,.int .i64 h.exp,.int .u64 h.bits,.string h.text,.slice a1 m1 d1,.slice a2 m2 d2]] _ _
 rw [hk]
 clear hx hk
 go_enter Tryz.func70, Tryz.ntmps70
 go_wp2_with (go_at_call 108;refine (hE.out _).mono ?_;rintro e w1 ⟨b,rfl,hT,hb1⟩)
 go_ret
 exact ⟨b,rfl,(show Hid _ from ⟨(fun q=>hx'.out.2 (hT.1 q)),(fun q=>hT.2 (hx'.out.1 q))⟩),below_then (below_al (Below.refl _ _)) hb1⟩
set_option maxRecDepth 100000 in
theorem bare_6 (n:Nat) (h:Hd) (l:List (VT n)) (ns ls:Value) (w:World) (hr:RD (n + 1) w (h,l) ns ls) (hk:h.kind=6) :
  Calls Tryz.prog 70 #[.agg (vals h ns ls)] w fun e w'=>TB (Bare h l) w e w':=by
 obtain ⟨a1,m1,d1,a2,m2,d2,rfl,rfl⟩:=hr.shape
 have hr:=hide hr
 have hx:Bare h l↔(({h with kind:=6,text:=⟨#[]⟩},l):VT (n + 1))=(zr 6,[]):=by
  obtain ⟨k,f,ng,dg,ex,bt,tx,nm⟩:=h
  simp only at hk
  subst hk
  simp [Bare,strip,zr]
 have hx':=hide hx
 have hE:=hide (fun o=>equal_any (n + 1) ({h with kind:=6,text:=⟨#[]⟩},l) (zr 6,[]) (.slice a1 m1 d1) (.slice a2 m2 d2) _ _ (w.alloc o) ⟨(hr.out.below (below_al (o:=o) (Below.refl _ _))).1,(hr.out.below (below_al (o:=o) (Below.refl _ _))).2⟩ (rd_zero n _ 6))
 show Calls _ _ #[.agg #[.int .i64 h.kind,.bool h.flag,.bool h.neg,.string h.dig,.int .i64 h.exp,.int .u64 h.bits,.string h.text,.slice a1 m1 d1,.slice a2 m2 d2]] _ _
 rw [hk]
 clear hx hk
 go_enter Tryz.func70, Tryz.ntmps70
 go_wp2_with (go_at_call 108;refine (hE.out _).mono ?_;rintro e w1 ⟨b,rfl,hT,hb1⟩)
 go_ret
 exact ⟨b,rfl,(show Hid _ from ⟨(fun q=>hx'.out.2 (hT.1 q)),(fun q=>hT.2 (hx'.out.1 q))⟩),below_then (below_al (Below.refl _ _)) hb1⟩
set_option maxRecDepth 100000 in
theorem bare_7 (n:Nat) (h:Hd) (l:List (VT n)) (ns ls:Value) (w:World) (hr:RD (n + 1) w (h,l) ns ls) (hk:h.kind=7) :
  Calls Tryz.prog 70 #[.agg (vals h ns ls)] w fun e w'=>TB (Bare h l) w e w':=by
 obtain ⟨a1,m1,d1,a2,m2,d2,rfl,rfl⟩:=hr.shape
 have hr:=hide hr
 have hx:Bare h l↔(({h with kind:=7},[]):VT (n + 1))=(zr 7,[]):=by
  obtain ⟨k,f,ng,dg,ex,bt,tx,nm⟩:=h
  simp only at hk
  subst hk
  simp [Bare,strip,zr]
 have hx':=hide hx
 have hE:=hide (fun o=>equal_any (n + 1) ({h with kind:=7},[]) (zr 7,[]) (.slice a1 m1 d1) (.slice none 0 0) _ _ (w.alloc o) ⟨(hr.out.below (below_al (o:=o) (Below.refl _ _))).1,Or.inl ⟨rfl,rfl⟩⟩ (rd_zero n _ 7))
 show Calls _ _ #[.agg #[.int .i64 h.kind,.bool h.flag,.bool h.neg,.string h.dig,.int .i64 h.exp,.int .u64 h.bits,.string h.text,.slice a1 m1 d1,.slice a2 m2 d2]] _ _
 rw [hk]
 clear hx hk
 go_enter Tryz.func70, Tryz.ntmps70
 go_wp2_with (go_at_call 108;refine (hE.out _).mono ?_;rintro e w1 ⟨b,rfl,hT,hb1⟩)
 go_ret
 exact ⟨b,rfl,(show Hid _ from ⟨(fun q=>hx'.out.2 (hT.1 q)),(fun q=>hT.2 (hx'.out.1 q))⟩),below_then (below_al (Below.refl _ _)) hb1⟩
set_option maxRecDepth 100000 in
theorem bare_8 (n:Nat) (h:Hd) (l:List (VT n)) (ns ls:Value) (w:World) (hr:RD (n + 1) w (h,l) ns ls) (hk:h.kind=8) :
  Calls Tryz.prog 70 #[.agg (vals h ns ls)] w fun e w'=>TB (Bare h l) w e w':=by
 obtain ⟨a1,m1,d1,a2,m2,d2,rfl,rfl⟩:=hr.shape
 have hr:=hide hr
 have hx:Bare h l↔(({h with kind:=8,names:=[]},[]):VT (n + 1))=(zr 8,[]):=by
  obtain ⟨k,f,ng,dg,ex,bt,tx,nm⟩:=h
  simp only at hk
  subst hk
  simp [Bare,strip,zr]
 have hx':=hide hx
 have hE:=hide (fun o=>equal_any (n + 1) ({h with kind:=8,names:=[]},[]) (zr 8,[]) (.slice none 0 0) (.slice none 0 0) _ _ (w.alloc o) ⟨Or.inl ⟨rfl,rfl⟩,Or.inl ⟨rfl,rfl⟩⟩ (rd_zero n _ 8))
 show Calls _ _ #[.agg #[.int .i64 h.kind,.bool h.flag,.bool h.neg,.string h.dig,.int .i64 h.exp,.int .u64 h.bits,.string h.text,.slice a1 m1 d1,.slice a2 m2 d2]] _ _
 rw [hk]
 clear hx hk
 go_enter Tryz.func70, Tryz.ntmps70
 go_wp2_with (go_at_call 108;refine (hE.out _).mono ?_;rintro e w1 ⟨b,rfl,hT,hb1⟩)
 go_ret
 exact ⟨b,rfl,(show Hid _ from ⟨(fun q=>hx'.out.2 (hT.1 q)),(fun q=>hT.2 (hx'.out.1 q))⟩),below_then (below_al (Below.refl _ _)) hb1⟩
set_option maxRecDepth 100000 in
theorem bare_9 (n:Nat) (h:Hd) (l:List (VT n)) (ns ls:Value) (w:World) (hr:RD (n + 1) w (h,l) ns ls) (hk:h.kind=9) :
  Calls Tryz.prog 70 #[.agg (vals h ns ls)] w fun e w'=>TB (Bare h l) w e w':=by
 obtain ⟨a1,m1,d1,a2,m2,d2,rfl,rfl⟩:=hr.shape
 have hr:=hide hr
 have hx:Bare h l↔(({h with kind:=9,text:=⟨#[]⟩},[]):VT (n + 1))=(zr 9,[]):=by
  obtain ⟨k,f,ng,dg,ex,bt,tx,nm⟩:=h
  simp only at hk
  subst hk
  simp [Bare,strip,zr]
 have hx':=hide hx
 have hE:=hide (fun o=>equal_any (n + 1) ({h with kind:=9,text:=⟨#[]⟩},[]) (zr 9,[]) (.slice a1 m1 d1) (.slice none 0 0) _ _ (w.alloc o) ⟨(hr.out.below (below_al (o:=o) (Below.refl _ _))).1,Or.inl ⟨rfl,rfl⟩⟩ (rd_zero n _ 9))
 show Calls _ _ #[.agg #[.int .i64 h.kind,.bool h.flag,.bool h.neg,.string h.dig,.int .i64 h.exp,.int .u64 h.bits,.string h.text,.slice a1 m1 d1,.slice a2 m2 d2]] _ _
 rw [hk]
 clear hx hk
 go_enter Tryz.func70, Tryz.ntmps70
 go_wp2_with (go_at_call 108;refine (hE.out _).mono ?_;rintro e w1 ⟨b,rfl,hT,hb1⟩)
 go_ret
 exact ⟨b,rfl,(show Hid _ from ⟨(fun q=>hx'.out.2 (hT.1 q)),(fun q=>hT.2 (hx'.out.1 q))⟩),below_then (below_al (Below.refl _ _)) hb1⟩
set_option maxRecDepth 100000 in
theorem isBare_any (n:Nat) (h:Hd) (l:List (VT n)) (ns ls:Value) (w:World) (hr:RD (n + 1) w (h,l) ns ls) :
  Calls Tryz.prog 70 #[.agg (vals h ns ls)] w fun e w'=>TB (Bare h l) w e w':=by
 by_cases k1:h.kind=1
 ·exact bare_1 n h l ns ls w hr k1
 by_cases k2:h.kind=2
 ·exact bare_2 n h l ns ls w hr k2
 by_cases k3:h.kind=3
 ·exact bare_3 n h l ns ls w hr k3
 by_cases k4:h.kind=4
 ·exact bare_4 n h l ns ls w hr k4
 by_cases k5:h.kind=5
 ·exact bare_5 n h l ns ls w hr k5
 by_cases k6:h.kind=6
 ·exact bare_6 n h l ns ls w hr k6
 by_cases k7:h.kind=7
 ·exact bare_7 n h l ns ls w hr k7
 by_cases k8:h.kind=8
 ·exact bare_8 n h l ns ls w hr k8
 by_cases k9:h.kind=9
 ·exact bare_9 n h l ns ls w hr k9
 have hx:¬ Bare h l:=by
  rintro ⟨q1,q2,_⟩
  omega
 have hx':=hide hx
 obtain ⟨a1,m1,d1,a2,m2,d2,rfl,rfl⟩:=hr.shape
 clear hx hr
 show Calls _ _ #[.agg #[.int .i64 h.kind,.bool h.flag,.bool h.neg,.string h.dig,.int .i64 h.exp,.int .u64 h.bits,.string h.text,.slice a1 m1 d1,.slice a2 m2 d2]] _ _
 go_enter Tryz.func70, Tryz.ntmps70
 go_wp2_with fail
 go_ret
 exact TB.no hx'.out (below_al (Below.refl _ _))
def fhv (c:UInt8):Option Nat:=if 48≤c.toNat∧c.toNat≤57 then some (c.toNat - 48) else if 97≤c.toNat∧c.toNat≤102 then some (c.toNat - 87) else none
theorem fhv_lt {c:UInt8} {d:Nat} (h:fhv c=some d):d<16:=by
 unfold fhv at h
 split at h
 ·have:=Option.some.inj h;omega
 ·split at h
  ·have:=Option.some.inj h;omega
  ·cases h
theorem fhexDigit_some (c:UInt8) (d:Nat) (w:World) (h:fhv c=some d) :
  Calls Tryz.prog 142 #[.int .u8 c.toNat] w fun e w'=>e=.returned (.tuple #[.int .u64 d,.bool true])∧w'=w:=by
 unfold fhv at h
 by_cases c1:48≤c.toNat∧c.toNat≤57
 ·rw [if_pos c1] at h
  have hd:=hide (Option.some.inj h)
  obtain ⟨c1,c2⟩:=c1
  have c1':(48:Int)≤c.toNat:=by omega
  have c2':(c.toNat:Int)≤57:=by omega
  clear h
  go_enter Tryz.func142, Tryz.ntmps142
  go_wp2
  exact bodyPost_ret (v:=.tuple #[.int .u64 ((c.toNat:Int) - 48),.bool true]) (by simp [results,Tryz.results142,go_sem]) rfl ⟨by rw [←hd.out,show (c.toNat:Int) - 48=((c.toNat - 48:Nat):Int) by omega],rfl⟩
 ·rw [if_neg c1] at h
  by_cases c3:97≤c.toNat∧c.toNat≤102
  ·rw [if_pos c3] at h
   have hd:=hide (Option.some.inj h)
   obtain ⟨c3,c4⟩:=c3
   have c3':(97:Int)≤c.toNat:=by omega
   have c4':(c.toNat:Int)≤102:=by omega
   clear h
   go_enter Tryz.func142, Tryz.ntmps142
   go_wp2
   exact bodyPost_ret (v:=.tuple #[.int .u64 ((c.toNat:Int) - 97 + 10),.bool true]) (by simp [results,Tryz.results142,go_sem]) rfl ⟨by rw [←hd.out,show (c.toNat:Int) - 97 + 10=((c.toNat - 87:Nat):Int) by omega],rfl⟩
  ·rw [if_neg c3] at h;cases h
theorem fhexDigit_none (c:UInt8) (w:World) (h:fhv c=none) :
  Calls Tryz.prog 142 #[.int .u8 c.toNat] w fun e w'=>e=.returned (.tuple #[.int .u64 0,.bool false])∧w'=w:=by
 unfold fhv at h
 have c1:¬ (48≤c.toNat∧c.toNat≤57):=by intro q;rw [if_pos q] at h;cases h
 rw [if_neg c1] at h
 have c3:¬ (97≤c.toNat∧c.toNat≤102):=by intro q;rw [if_pos q] at h;cases h
 clear h
 by_cases a1:c.toNat<48
 ·go_enter Tryz.func142, Tryz.ntmps142
  go_wp2
  exact bodyPost_ret (v:=.tuple #[.int .u64 0,.bool false]) (by simp [results,Tryz.results142,go_sem]) rfl ⟨rfl,rfl⟩
 ·by_cases a2:c.toNat<97
  ·have a1':(48:Int)≤c.toNat:=by omega
   have a3:¬ ((c.toNat:Int)≤57):=by omega
   have a2':¬ (97:Int)≤c.toNat:=by omega
   go_enter Tryz.func142, Tryz.ntmps142
   go_wp2
   exact bodyPost_ret (v:=.tuple #[.int .u64 0,.bool false]) (by simp [results,Tryz.results142,go_sem]) rfl ⟨rfl,rfl⟩
  ·have a3:¬ ((c.toNat:Int)≤57):=by omega
   have a2':(97:Int)≤c.toNat:=by omega
   have a4:¬ ((c.toNat:Int)≤102):=by omega
   go_enter Tryz.func142, Tryz.ntmps142
   go_wp2
   exact bodyPost_ret (v:=.tuple #[.int .u64 0,.bool false]) (by simp [results,Tryz.results142,go_sem]) rfl ⟨rfl,rfl⟩
def fuhS (o:Option Nat) (c:UInt8):Option Nat:=match o,fhv c with
 | some a,some d=>some (a * 16 + d)
 | _,_=>none
def fuh (l:List UInt8):Option Nat:=l.foldl fuhS (some 0)
theorem fuh_snoc (l:List UInt8) (c:UInt8):fuh (l++[c])=fuhS (fuh l) c:=by simp [fuh]
theorem fuh_none (l m:List UInt8) (h:fuh l=none):fuh (l++m)=none:=by
 unfold fuh at h ⊢
 rw [List.foldl_append,h]
 induction m with
 | nil=>rfl
 | cons a m ih=>exact ih
theorem fuh_take (s:ByteArray) (k:Nat) (h:k<s.size):fuh ((bl s).take (k + 1))=fuhS (fuh ((bl s).take k)) s[k]:=by
 rw [List.take_succ_eq_append_getElem (by rw [bl_length];exact h),fuh_snoc,bl_get s k h]
def funh (s:ByteArray):Nat×Nat:=if s.size=16 then (match fuh (bl s) with|some b=>(b,0)|none=>(0,20)) else (0,20)
theorem funh_len (s:ByteArray) (h:s.size≠16):funh s=(0,20):=by unfold funh;rw [if_neg h]
theorem funh_some (s:ByteArray) (h:s.size=16) (b:Nat) (hb:fuh (bl s)=some b):funh s=(b,0):=by unfold funh;rw [if_pos h,hb]
theorem funh_none (s:ByteArray) (h:s.size=16) (hb:fuh (bl s)=none):funh s=(0,20):=by unfold funh;rw [if_pos h,hb]
theorem funhex_any (s:ByteArray) (w:World) (hs:s.size≤maxLen) :
  Calls Tryz.prog 123 #[.string s] w fun e w'=>e=.returned (.tuple #[.int .u64 (funh s).1,.int .i64 (funh s).2])∧w'=w:=by
 unfold maxLen at hs
 by_cases h16:s.size=16
 ·have H16:=hide h16
  go_enter Tryz.func123, Tryz.ntmps123
  go_wp2
  go_loop [4,13] (fun b i=>∃ k a:Nat,k≤16∧a<16 ^ k∧i=.int .i64 k∧b=.int .u64 a∧Hid (fuh ((bl s).take k)=some a)) (fun b i=>16 - (intOf i).toNat)
  case atStart=>exact ⟨0,0,by omega,by omega,rfl,rfl,rfl⟩
  case round =>
   obtain ⟨k,a,hk,ha,rfl,rfl,hu⟩:=hrel
   by_cases hlt:k<16
   ·have hks:k<s.size:=by omega
    have hks':(k:Int)<s.size:=by omega
    have ht:=hide (fuh_take s k hks)
    rw [hu.out] at ht
    cases hc:fhv s[k] with
    | none =>
     have hr:=hide (show funh s=(0,20) by
      refine funh_none s h16 ?_
      have:=fuh_none ((bl s).take (k + 1)) ((bl s).drop (k + 1)) (by rw [ht.out];unfold fuhS;rw [hc])
      rw [List.take_append_drop] at this
      exact this)
     go_wp2_with (go_at_call 142;refine (fhexDigit_none s[k] _ hc).mono ?_;rintro e w' ⟨rfl,rfl⟩)
     exact bodyPost_ret (v:=.tuple #[.int .u64 0,.int .i64 20]) (by simp [results,Tryz.results123,go_sem]) rfl ⟨by rw [hr.out];rfl,rfl⟩
    | some d =>
     have hd:=fhv_lt hc
     have hp:16 ^ k≤16 ^ 15:=Nat.pow_le_pow_right (by decide) (by omega)
     have hp2:=hide (show 16 ^ (k + 1)=16 ^ k * 16 from Nat.pow_succ ..)
     have hv16:(16:Nat) ^ 15=1152921504606846976:=rfl
     rw [hv16] at hp
     have ha':a<1152921504606846976:=by omega
     have hor:bits .or .u64 ((a:Int) * 16) (d:Int)=((a * 16 + d:Nat):Int):=by
      have:=u64_or_nat (a * 16) d (by omega) (by omega)
      rw [nat_join 4 (a * 16) d (by show _ % 16=0;omega) (by show _<16;omega)] at this
      rw [←this];rfl
     have hn:=hide (show fuh ((bl s).take (k + 1))=some (a * 16 + d) by rw [ht.out];unfold fuhS;rw [hc])
     have hA:=hide ha
     clear hp hv16 ha
     go_wp2_with (go_at_call 142;refine (fhexDigit_some s[k] d _ hc).mono ?_;rintro e w' ⟨rfl,rfl⟩)
     refine ⟨⟨k + 1,a * 16 + d,by omega,?_,by go_num,rfl,hn.out⟩,by simp [intOf];omega⟩
     rw [hp2.out]
     have:=hA.out
     omega
   ·have hke:k=16:=by omega
    subst hke
    have hr:=hide (show funh s=(a,0) by
     refine funh_some s h16 a ?_
     have:=hu.out
     rw [List.take_of_length_le (by rw [bl_length,h16];exact Nat.le_refl _)] at this
     exact this)
    go_wp2
    exact bodyPost_ret (v:=.tuple #[.int .u64 a,.int .i64 0]) (by simp [results,Tryz.results123,go_sem]) rfl ⟨by rw [hr.out];rfl,rfl⟩
 ·have hr:=hide (funh_len s h16)
  have h16':¬ ((s.size:Int)=16):=by omega
  go_enter Tryz.func123, Tryz.ntmps123
  go_wp2
  exact bodyPost_ret (v:=.tuple #[.int .u64 0,.int .i64 20]) (by simp [results,Tryz.results123,go_sem]) rfl ⟨by rw [hr.out];rfl,rfl⟩
set_option maxRecDepth 1000000 in
theorem parse_some_a (s:ByteArray) (w:World) (hs:s.size≤512) (n:Bool) (wh fr:List UInt8) (pn:Bool) (pw:List UInt8) (h:splitL (bl s)=some (n,wh,fr,pn,pw)) (hfr:fr.length=0) (hw5:wh.length<512) :
  Calls Tryz.prog 143 #[.string s] w fun e w'=>e=retF (formF n (dlu wh++dlu fr) (powF pn pw - fr.length))∧Below w.heap.size w w':=by
 obtain ⟨a1,a2,a3,a4,a5,a6⟩:=splitL_facts h
 rw [bl_length] at a5 a6
 have hB:=hide (box_new w false ⟨#[]⟩ 0)
 have h:=hide h
 have a1:=hide a1
 have a2:=hide a2
 have a3:=hide a3
 go_enter Tryz.func143, Tryz.ntmps143
 go_wp2_with fail
 refine (split_any s _ (by omega)).mono ?_
 rw [h.out]
 rintro e w1 ⟨rfl,hb1⟩
 have hB1:=hide (hB.out.below hb1 (by simp))
 have hl:=hB1.out.lt
 have hb:=hide (below_alloc hb1)
 clear hb1
 simp only [splitE,partsE,if_true,Bool.false_eq_true,if_false]
 go_wp2_with fail
 obtain ⟨W2,hW2⟩:∃ W2,(w1.alloc (.cells #[.bool n,.string (mkB wh),.string (mkB fr),.bool pn,.string (mkB pw)] 158)).alloc (.cells Tryz.zeroCells161 161)=W2:=⟨_,rfl⟩
 rw [hW2]
 have hA2:Hid (Arr W2 (w1.heap.size + 1) 161 (List.replicate 512 0)):=by
  show Arr _ _ _ _
  rw [←hW2,show w1.heap.size + 1=(w1.alloc (.cells #[.bool n,.string (mkB wh),.string (mkB fr),.bool pn,.string (mkB pw)] 158)).heap.size from by simp]
  exact arr_new _ _ 512 _ (by kernel_rfl)
 have hP2:Hid (PBox W2 w1.heap.size n (mkB wh) (mkB fr) pn (mkB pw)):=by
  show PBox _ _ _ _ _ _ _
  rw [←hW2];exact (pbox_new w1 n (mkB wh) (mkB fr) pn (mkB pw)).alloc _
 have hB2:Hid (Box W2 w.heap.size false ⟨#[]⟩ 0):=by
  show Box _ _ _ _ _
  rw [←hW2];exact (hB1.out.alloc _).alloc _
 have hb2:Hid (Below w.heap.size w W2):=by
  show Below _ _ _
  rw [←hW2];exact below_al (below_al hb.out)
 clear hW2 hb hB1 hB
 obtain ⟨p0,p1,p2,p3,p4,r0,r1,r2,r3,r4⟩:=hP2.out.cells
 have hdlw:=hide (dlu_mkB wh)
 have hdlf:=hide (dlu_mkB fr)
 have hlw:(dlu wh).length=wh.length:=by simp [dlu]
 have hlf:(dlu fr).length=fr.length:=by simp [dlu]
 have hsw:=mkB_size wh
 have hsf:=mkB_size fr
 go_region_with (go_at_call 151;refine (lay_any (w1.heap.size + 1) 0 512 512 161 (List.replicate 512 0) (mkB wh) W2.drew hA2.out.drew (by omega) (by simp) (by rw [bl_mkB];exact a1.out) (by simp)).mono ?_;rw [hsw,hdlw.out];rintro e W3 ⟨rfl,hA3,hO3⟩;have hA3:=hide hA3;have hO3:=hide hO3)
 have hP3:=hide (hP2.out.drew.only hO3.out (by omega))
 have hB3:Hid (Box W3 w.heap.size false ⟨#[]⟩ 0):=Box.only (W:=W2.drew) hB2.out hO3.out (by omega)
 have hb3:Hid (Below w.heap.size w W3):=hb2.out.drew.trans (hO3.out.below (by omega))
 have hz3:w1.heap.size + 1<W3.heap.size:=hA3.out.lt
 clear p0 p1 p2 p3 p4 r0 r1 r2 r3 r4 hA2 hP2 hB2 hb2 hO3
 obtain ⟨p0,p1,p2,p3,p4,r0,r1,r2,r3,r4⟩:=hP3.out.cells
 have hdgs:Hid (Dgs (dlu wh++dlu fr)):=by
  intro d hd
  rcases List.mem_append.1 hd with h|h
  ·exact dlu_dgs wh a1.out d h
  ·exact dlu_dgs fr a2.out d h
 have hwi:(wh.length:Int)≤512:=by omega
 have hwi0:(0:Int)≤(wh.length:Int):=by omega
 have hwr0:IntKind.i64.wrap (wh.length:Int)=wh.length:=by rw [IntKind.wrap_i64];omega
 have hwr1:IntKind.i64.wrap ((wh.length:Int) + (fr.length:Int))=(wh.length:Int) + (fr.length:Int):=by rw [IntKind.wrap_i64];omega
 have hwr2:IntKind.i64.wrap (powF pn pw - (fr.length:Int))=powF pn pw - (fr.length:Int):=by
  have:=powF_bounds pn pw a3.out
  rw [IntKind.wrap_i64];omega
 obtain ⟨q3,hq3⟩:∃ q3,layR (List.replicate 512 0) 0 (dlu wh)=q3:=⟨_,rfl⟩
 rw [hq3] at hA3
 have hq3l:q3.length=512:=by rw [←hq3,layR_len _ _ _ (by rw [List.length_replicate];omega),List.length_replicate]
 have hq3:=hide hq3
 have hq3l:=hide hq3l
 have hfr0:=hide hfr
 clear hfr
 have hwl:(wh.length:Int)<512:=by omega
 have hwl':¬ 512 - wh.length=0:=by omega
 go_wp2_with fail
 go_region_with (go_at_call 151;go_fit (lay_none _ (mkB fr) W3.drew (by rw [hsf];exact hfr0.out));rintro e W4 ⟨rfl,rfl⟩)
 have hA4:Hid (Arr W3.drew (w1.heap.size + 1) 161 (layR q3 wh.length (dlu fr))):=by
  show Arr _ _ _ _
  rw [List.eq_nil_of_length_eq_zero (hlf.trans hfr0.out),layR_nil];exact hA3.out.drew
 have hP4:=hide hP3.out.drew
 have hB4:Hid (Box W3.drew w.heap.size false ⟨#[]⟩ 0):=hB3.out
 have hb4:=hide hb3.out.drew
 have hz4:w1.heap.size + 1<W3.drew.heap.size:=hA4.out.lt
 clear p0 p1 p2 p3 p4 r0 r1 r2 r3 r4 hA3 hP3 hB3 hb3
 obtain ⟨p0,p1,p2,p3,p4,r0,r1,r2,r3,r4⟩:=hP4.out.cells
 obtain ⟨hpw1,hpw2⟩:=powF_bounds pn pw a3.out
 have hcells:Hid (∀ i (h:i<(dlu wh++dlu fr).length),W3.drew.cell? ⟨w1.heap.size + 1,0 + i,none⟩=some (.int .u8 ((dlu wh++dlu fr)[i]:Nat))):=by
  show ∀ i (h:i<(dlu wh++dlu fr).length),_
  intro i hi
  have hi2:i<wh.length + fr.length:=by rw [List.length_append,hlw,hlf] at hi;exact hi
  have hlen:(layR q3 wh.length (dlu fr)).length=512:=by rw [layR_len _ _ _ (by have:=hq3l.out;omega)];exact hq3l.out
  rw [Nat.zero_add,hA4.out.cell i (by omega)]
  have e:=layR_two (dlu wh) (dlu fr) 512 (by omega) i hi (by rw [hlw,hq3.out];omega)
  simp only [hlw,hq3.out] at e
  rw [e]
 go_wp2_with fail
 have S4:Hid (PSt w w1.heap.size n (mkB wh) (mkB fr) pn (mkB pw) (dlu wh++dlu fr) W3.drew):=⟨hb4.out,hP4.out,hB4.out,hz4,hcells.out⟩
 have hpl:(mkB pw).size≤100000:=by rw [mkB_size];omega
 have hpb:=hide (bl_mkB pw)
 have hpa:=hide (show allD (bl (mkB pw))=true by rw [bl_mkB];exact a3.out)
 have hdl:=hide (show (dlu wh++dlu fr).length=wh.length by rw [List.length_append,hlw,hlf];have:=hfr0.out;omega)
 go_region_with (first|(go_at_call 153;go_fit (powerOf_any n (mkB wh) (mkB fr) pn (mkB pw) W3.drew.drew hpl hpa.out);rw [hpb.out];rintro e W5 ⟨rfl,hb5⟩;have S5:=hide (S4.out.drew.then hb5);clear hb5;obtain ⟨u0,u1,u2,u3,u4,s0,s1,s2,s3,s4⟩:=S5.out.hp.cells)|(go_at_call 152;go_fit (form_any n (w1.heap.size + 1) 0 wh.length 512 (dlu wh++dlu fr) (powF pn pw - fr.length) W5 hdl.out (by omega) (by omega) (by omega) (by omega) S5.out.hz S5.out.hc (by omega) (by omega) hdgs.out);rintro e W6 ⟨rfl,hb6⟩;obtain ⟨fb,fs,fx,fe,hfe⟩:∃ fb fs fx fe,formF n (dlu wh++dlu fr) (powF pn pw - fr.length)=(fb,fs,fx,fe):=⟨_,_,_,_,rfl⟩;rw [hfe];have hfe:=hide hfe;have S6:=hide (S5.out.then hb6);clear hb6;obtain ⟨d20,d21,d22,g20,g21,g22⟩:=S6.out.hb.cells;simp only [retF]))
 all_goals
  go_wp2
  refine bodyPost_ret (v:=.tuple #[.agg #[.bool fb,.string fs,.int .i64 fx],.int .i64 fe]) (by simp [results,Tryz.results143,go_sem,d20,d21,d22]) rfl ⟨by rw [hfe.out];rfl,?_⟩
  exact ((S6.out.below.setCell (Nat.le_refl _) _).setCell (Nat.le_refl _) _).setCell (Nat.le_refl _) _
set_option maxRecDepth 1000000 in
theorem parse_some_b (s:ByteArray) (w:World) (hs:s.size≤512) (n:Bool) (wh fr:List UInt8) (pn:Bool) (pw:List UInt8) (h:splitL (bl s)=some (n,wh,fr,pn,pw)) (hfr:fr.length=0) (hw5:¬ wh.length<512) :
  Calls Tryz.prog 143 #[.string s] w fun e w'=>e=retF (formF n (dlu wh++dlu fr) (powF pn pw - fr.length))∧Below w.heap.size w w':=by
 obtain ⟨a1,a2,a3,a4,a5,a6⟩:=splitL_facts h
 rw [bl_length] at a5 a6
 have hB:=hide (box_new w false ⟨#[]⟩ 0)
 have h:=hide h
 have a1:=hide a1
 have a2:=hide a2
 have a3:=hide a3
 go_enter Tryz.func143, Tryz.ntmps143
 go_wp2_with fail
 refine (split_any s _ (by omega)).mono ?_
 rw [h.out]
 rintro e w1 ⟨rfl,hb1⟩
 have hB1:=hide (hB.out.below hb1 (by simp))
 have hl:=hB1.out.lt
 have hb:=hide (below_alloc hb1)
 clear hb1
 simp only [splitE,partsE,if_true,Bool.false_eq_true,if_false]
 go_wp2_with fail
 obtain ⟨W2,hW2⟩:∃ W2,(w1.alloc (.cells #[.bool n,.string (mkB wh),.string (mkB fr),.bool pn,.string (mkB pw)] 158)).alloc (.cells Tryz.zeroCells161 161)=W2:=⟨_,rfl⟩
 rw [hW2]
 have hA2:Hid (Arr W2 (w1.heap.size + 1) 161 (List.replicate 512 0)):=by
  show Arr _ _ _ _
  rw [←hW2,show w1.heap.size + 1=(w1.alloc (.cells #[.bool n,.string (mkB wh),.string (mkB fr),.bool pn,.string (mkB pw)] 158)).heap.size from by simp]
  exact arr_new _ _ 512 _ (by kernel_rfl)
 have hP2:Hid (PBox W2 w1.heap.size n (mkB wh) (mkB fr) pn (mkB pw)):=by
  show PBox _ _ _ _ _ _ _
  rw [←hW2];exact (pbox_new w1 n (mkB wh) (mkB fr) pn (mkB pw)).alloc _
 have hB2:Hid (Box W2 w.heap.size false ⟨#[]⟩ 0):=by
  show Box _ _ _ _ _
  rw [←hW2];exact (hB1.out.alloc _).alloc _
 have hb2:Hid (Below w.heap.size w W2):=by
  show Below _ _ _
  rw [←hW2];exact below_al (below_al hb.out)
 clear hW2 hb hB1 hB
 obtain ⟨p0,p1,p2,p3,p4,r0,r1,r2,r3,r4⟩:=hP2.out.cells
 have hdlw:=hide (dlu_mkB wh)
 have hdlf:=hide (dlu_mkB fr)
 have hlw:(dlu wh).length=wh.length:=by simp [dlu]
 have hlf:(dlu fr).length=fr.length:=by simp [dlu]
 have hsw:=mkB_size wh
 have hsf:=mkB_size fr
 go_region_with (go_at_call 151;refine (lay_any (w1.heap.size + 1) 0 512 512 161 (List.replicate 512 0) (mkB wh) W2.drew hA2.out.drew (by omega) (by simp) (by rw [bl_mkB];exact a1.out) (by simp)).mono ?_;rw [hsw,hdlw.out];rintro e W3 ⟨rfl,hA3,hO3⟩;have hA3:=hide hA3;have hO3:=hide hO3)
 have hP3:=hide (hP2.out.drew.only hO3.out (by omega))
 have hB3:Hid (Box W3 w.heap.size false ⟨#[]⟩ 0):=Box.only (W:=W2.drew) hB2.out hO3.out (by omega)
 have hb3:Hid (Below w.heap.size w W3):=hb2.out.drew.trans (hO3.out.below (by omega))
 have hz3:w1.heap.size + 1<W3.heap.size:=hA3.out.lt
 clear p0 p1 p2 p3 p4 r0 r1 r2 r3 r4 hA2 hP2 hB2 hb2 hO3
 obtain ⟨p0,p1,p2,p3,p4,r0,r1,r2,r3,r4⟩:=hP3.out.cells
 have hdgs:Hid (Dgs (dlu wh++dlu fr)):=by
  intro d hd
  rcases List.mem_append.1 hd with h|h
  ·exact dlu_dgs wh a1.out d h
  ·exact dlu_dgs fr a2.out d h
 have hwi:(wh.length:Int)≤512:=by omega
 have hwi0:(0:Int)≤(wh.length:Int):=by omega
 have hwr0:IntKind.i64.wrap (wh.length:Int)=wh.length:=by rw [IntKind.wrap_i64];omega
 have hwr1:IntKind.i64.wrap ((wh.length:Int) + (fr.length:Int))=(wh.length:Int) + (fr.length:Int):=by rw [IntKind.wrap_i64];omega
 have hwr2:IntKind.i64.wrap (powF pn pw - (fr.length:Int))=powF pn pw - (fr.length:Int):=by
  have:=powF_bounds pn pw a3.out
  rw [IntKind.wrap_i64];omega
 obtain ⟨q3,hq3⟩:∃ q3,layR (List.replicate 512 0) 0 (dlu wh)=q3:=⟨_,rfl⟩
 rw [hq3] at hA3
 have hq3l:q3.length=512:=by rw [←hq3,layR_len _ _ _ (by rw [List.length_replicate];omega),List.length_replicate]
 have hq3:=hide hq3
 have hq3l:=hide hq3l
 have hfr0:=hide hfr
 clear hfr
 have hwl':512 - wh.length=0:=by omega
 clear hw5
 go_wp2_with fail
 go_region_with (go_at_call 151;go_fit (lay_none _ (mkB fr) W3.drew (by rw [hsf];exact hfr0.out));rintro e W4 ⟨rfl,rfl⟩)
 have hA4:Hid (Arr W3.drew (w1.heap.size + 1) 161 (layR q3 wh.length (dlu fr))):=by
  show Arr _ _ _ _
  rw [List.eq_nil_of_length_eq_zero (hlf.trans hfr0.out),layR_nil];exact hA3.out.drew
 have hP4:=hide hP3.out.drew
 have hB4:Hid (Box W3.drew w.heap.size false ⟨#[]⟩ 0):=hB3.out
 have hb4:=hide hb3.out.drew
 have hz4:w1.heap.size + 1<W3.drew.heap.size:=hA4.out.lt
 clear p0 p1 p2 p3 p4 r0 r1 r2 r3 r4 hA3 hP3 hB3 hb3
 obtain ⟨p0,p1,p2,p3,p4,r0,r1,r2,r3,r4⟩:=hP4.out.cells
 obtain ⟨hpw1,hpw2⟩:=powF_bounds pn pw a3.out
 have hcells:Hid (∀ i (h:i<(dlu wh++dlu fr).length),W3.drew.cell? ⟨w1.heap.size + 1,0 + i,none⟩=some (.int .u8 ((dlu wh++dlu fr)[i]:Nat))):=by
  show ∀ i (h:i<(dlu wh++dlu fr).length),_
  intro i hi
  have hi2:i<wh.length + fr.length:=by rw [List.length_append,hlw,hlf] at hi;exact hi
  have hlen:(layR q3 wh.length (dlu fr)).length=512:=by rw [layR_len _ _ _ (by have:=hq3l.out;omega)];exact hq3l.out
  rw [Nat.zero_add,hA4.out.cell i (by omega)]
  have e:=layR_two (dlu wh) (dlu fr) 512 (by omega) i hi (by rw [hlw,hq3.out];omega)
  simp only [hlw,hq3.out] at e
  rw [e]
 go_wp2_with fail
 have S4:Hid (PSt w w1.heap.size n (mkB wh) (mkB fr) pn (mkB pw) (dlu wh++dlu fr) W3.drew):=⟨hb4.out,hP4.out,hB4.out,hz4,hcells.out⟩
 have hpl:(mkB pw).size≤100000:=by rw [mkB_size];omega
 have hpb:=hide (bl_mkB pw)
 have hpa:=hide (show allD (bl (mkB pw))=true by rw [bl_mkB];exact a3.out)
 have hdl:=hide (show (dlu wh++dlu fr).length=wh.length by rw [List.length_append,hlw,hlf];have:=hfr0.out;omega)
 go_region_with (first|(go_at_call 153;go_fit (powerOf_any n (mkB wh) (mkB fr) pn (mkB pw) W3.drew.drew hpl hpa.out);rw [hpb.out];rintro e W5 ⟨rfl,hb5⟩;have S5:=hide (S4.out.drew.then hb5);clear hb5;obtain ⟨u0,u1,u2,u3,u4,s0,s1,s2,s3,s4⟩:=S5.out.hp.cells)|(go_at_call 152;go_fit (form_any n (w1.heap.size + 1) 0 wh.length wh.length (dlu wh++dlu fr) (powF pn pw - fr.length) W5 hdl.out (by omega) (by omega) (by omega) (by omega) S5.out.hz S5.out.hc (by omega) (by omega) hdgs.out);rintro e W6 ⟨rfl,hb6⟩;obtain ⟨fb,fs,fx,fe,hfe⟩:∃ fb fs fx fe,formF n (dlu wh++dlu fr) (powF pn pw - fr.length)=(fb,fs,fx,fe):=⟨_,_,_,_,rfl⟩;rw [hfe];have hfe:=hide hfe;have S6:=hide (S5.out.then hb6);clear hb6;obtain ⟨d20,d21,d22,g20,g21,g22⟩:=S6.out.hb.cells;simp only [retF]))
 all_goals
  go_wp2
  refine bodyPost_ret (v:=.tuple #[.agg #[.bool fb,.string fs,.int .i64 fx],.int .i64 fe]) (by simp [results,Tryz.results143,go_sem,d20,d21,d22]) rfl ⟨by rw [hfe.out];rfl,?_⟩
  exact ((S6.out.below.setCell (Nat.le_refl _) _).setCell (Nat.le_refl _) _).setCell (Nat.le_refl _) _
set_option maxRecDepth 1000000 in
theorem parse_some_c (s:ByteArray) (w:World) (hs:s.size≤512) (n:Bool) (wh fr:List UInt8) (pn:Bool) (pw:List UInt8) (h:splitL (bl s)=some (n,wh,fr,pn,pw)) (hfr:¬ fr.length=0) :
  Calls Tryz.prog 143 #[.string s] w fun e w'=>e=retF (formF n (dlu wh++dlu fr) (powF pn pw - fr.length))∧Below w.heap.size w w':=by
 obtain ⟨a1,a2,a3,a4,a5,a6⟩:=splitL_facts h
 rw [bl_length] at a5 a6
 have hB:=hide (box_new w false ⟨#[]⟩ 0)
 have h:=hide h
 have a1:=hide a1
 have a2:=hide a2
 have a3:=hide a3
 go_enter Tryz.func143, Tryz.ntmps143
 go_wp2_with fail
 refine (split_any s _ (by omega)).mono ?_
 rw [h.out]
 rintro e w1 ⟨rfl,hb1⟩
 have hB1:=hide (hB.out.below hb1 (by simp))
 have hl:=hB1.out.lt
 have hb:=hide (below_alloc hb1)
 clear hb1
 simp only [splitE,partsE,if_true,Bool.false_eq_true,if_false]
 go_wp2_with fail
 obtain ⟨W2,hW2⟩:∃ W2,(w1.alloc (.cells #[.bool n,.string (mkB wh),.string (mkB fr),.bool pn,.string (mkB pw)] 158)).alloc (.cells Tryz.zeroCells161 161)=W2:=⟨_,rfl⟩
 rw [hW2]
 have hA2:Hid (Arr W2 (w1.heap.size + 1) 161 (List.replicate 512 0)):=by
  show Arr _ _ _ _
  rw [←hW2,show w1.heap.size + 1=(w1.alloc (.cells #[.bool n,.string (mkB wh),.string (mkB fr),.bool pn,.string (mkB pw)] 158)).heap.size from by simp]
  exact arr_new _ _ 512 _ (by kernel_rfl)
 have hP2:Hid (PBox W2 w1.heap.size n (mkB wh) (mkB fr) pn (mkB pw)):=by
  show PBox _ _ _ _ _ _ _
  rw [←hW2];exact (pbox_new w1 n (mkB wh) (mkB fr) pn (mkB pw)).alloc _
 have hB2:Hid (Box W2 w.heap.size false ⟨#[]⟩ 0):=by
  show Box _ _ _ _ _
  rw [←hW2];exact (hB1.out.alloc _).alloc _
 have hb2:Hid (Below w.heap.size w W2):=by
  show Below _ _ _
  rw [←hW2];exact below_al (below_al hb.out)
 clear hW2 hb hB1 hB
 obtain ⟨p0,p1,p2,p3,p4,r0,r1,r2,r3,r4⟩:=hP2.out.cells
 have hdlw:=hide (dlu_mkB wh)
 have hdlf:=hide (dlu_mkB fr)
 have hlw:(dlu wh).length=wh.length:=by simp [dlu]
 have hlf:(dlu fr).length=fr.length:=by simp [dlu]
 have hsw:=mkB_size wh
 have hsf:=mkB_size fr
 go_region_with (go_at_call 151;refine (lay_any (w1.heap.size + 1) 0 512 512 161 (List.replicate 512 0) (mkB wh) W2.drew hA2.out.drew (by omega) (by simp) (by rw [bl_mkB];exact a1.out) (by simp)).mono ?_;rw [hsw,hdlw.out];rintro e W3 ⟨rfl,hA3,hO3⟩;have hA3:=hide hA3;have hO3:=hide hO3)
 have hP3:=hide (hP2.out.drew.only hO3.out (by omega))
 have hB3:Hid (Box W3 w.heap.size false ⟨#[]⟩ 0):=Box.only (W:=W2.drew) hB2.out hO3.out (by omega)
 have hb3:Hid (Below w.heap.size w W3):=hb2.out.drew.trans (hO3.out.below (by omega))
 have hz3:w1.heap.size + 1<W3.heap.size:=hA3.out.lt
 clear p0 p1 p2 p3 p4 r0 r1 r2 r3 r4 hA2 hP2 hB2 hb2 hO3
 obtain ⟨p0,p1,p2,p3,p4,r0,r1,r2,r3,r4⟩:=hP3.out.cells
 have hdgs:Hid (Dgs (dlu wh++dlu fr)):=by
  intro d hd
  rcases List.mem_append.1 hd with h|h
  ·exact dlu_dgs wh a1.out d h
  ·exact dlu_dgs fr a2.out d h
 have hwi:(wh.length:Int)≤512:=by omega
 have hwi0:(0:Int)≤(wh.length:Int):=by omega
 have hwr0:IntKind.i64.wrap (wh.length:Int)=wh.length:=by rw [IntKind.wrap_i64];omega
 have hwr1:IntKind.i64.wrap ((wh.length:Int) + (fr.length:Int))=(wh.length:Int) + (fr.length:Int):=by rw [IntKind.wrap_i64];omega
 have hwr2:IntKind.i64.wrap (powF pn pw - (fr.length:Int))=powF pn pw - (fr.length:Int):=by
  have:=powF_bounds pn pw a3.out
  rw [IntKind.wrap_i64];omega
 obtain ⟨q3,hq3⟩:∃ q3,layR (List.replicate 512 0) 0 (dlu wh)=q3:=⟨_,rfl⟩
 rw [hq3] at hA3
 have hq3l:q3.length=512:=by rw [←hq3,layR_len _ _ _ (by rw [List.length_replicate];omega),List.length_replicate]
 have hq3:=hide hq3
 have hq3l:=hide hq3l
 have hwl:(wh.length:Int)<512:=by omega
 have hwl':¬ 512 - wh.length=0:=by omega
 have f1:(mkB fr).size≤512 - wh.length:=by omega
 have f2:wh.length + (512 - wh.length)≤q3.length:=by have:=hq3l.out;omega
 have f3:q3.length≤100000:=by have:=hq3l.out;omega
 have HC:=hide (lay_any (w1.heap.size + 1) wh.length (512 - wh.length) (512 - wh.length) 161 q3 (mkB fr) W3.drew hA3.out.drew f1 f2 (by rw [bl_mkB];exact a2.out) f3)
 clear f1 f2 f3
 go_wp2_with fail
 go_region_with (go_at_call 151;go_fit HC.out;rw [hsf,hdlf.out];rintro e W4 ⟨rfl,hA4,hO4⟩;have hA4:=hide hA4;have hO4:=hide hO4)
 clear HC
 have hkk:(wh.length:Int) + (fr.length:Int)≤512:=by omega
 have hkk0:(0:Int)≤(wh.length:Int) + (fr.length:Int):=by omega
 have hkt:((wh.length:Int) + (fr.length:Int)).toNat=wh.length + fr.length:=by omega
 have hP4:=hide (hP3.out.drew.only hO4.out (by omega))
 have hB4:Hid (Box W4 w.heap.size false ⟨#[]⟩ 0):=Box.only (W:=W3.drew) hB3.out hO4.out (by omega)
 have hb4:Hid (Below w.heap.size w W4):=hb3.out.drew.trans (hO4.out.below (by omega))
 clear hO4
 have hz4:w1.heap.size + 1<W4.heap.size:=hA4.out.lt
 clear p0 p1 p2 p3 p4 r0 r1 r2 r3 r4 hA3 hP3 hB3 hb3
 obtain ⟨p0,p1,p2,p3,p4,r0,r1,r2,r3,r4⟩:=hP4.out.cells
 obtain ⟨hpw1,hpw2⟩:=powF_bounds pn pw a3.out
 have hcells:Hid (∀ i (h:i<(dlu wh++dlu fr).length),W4.cell? ⟨w1.heap.size + 1,0 + i,none⟩=some (.int .u8 ((dlu wh++dlu fr)[i]:Nat))):=by
  show ∀ i (h:i<(dlu wh++dlu fr).length),_
  intro i hi
  have hi2:i<wh.length + fr.length:=by rw [List.length_append,hlw,hlf] at hi;exact hi
  have hlen:(layR q3 wh.length (dlu fr)).length=512:=by rw [layR_len _ _ _ (by have:=hq3l.out;omega)];exact hq3l.out
  rw [Nat.zero_add,hA4.out.cell i (by omega)]
  have e:=layR_two (dlu wh) (dlu fr) 512 (by omega) i hi (by rw [hlw,hq3.out];omega)
  simp only [hlw,hq3.out] at e
  rw [e]
 go_wp2_with fail
 have S4:Hid (PSt w w1.heap.size n (mkB wh) (mkB fr) pn (mkB pw) (dlu wh++dlu fr) W4):=⟨hb4.out,hP4.out,hB4.out,hz4,hcells.out⟩
 have hpl:(mkB pw).size≤100000:=by rw [mkB_size];omega
 have hpb:=hide (bl_mkB pw)
 have hpa:=hide (show allD (bl (mkB pw))=true by rw [bl_mkB];exact a3.out)
 have hdl:=hide (show (dlu wh++dlu fr).length=(wh.length + fr.length) by rw [List.length_append,hlw,hlf])
 go_region_with (first|(go_at_call 153;go_fit (powerOf_any n (mkB wh) (mkB fr) pn (mkB pw) W4.drew hpl hpa.out);rw [hpb.out];rintro e W5 ⟨rfl,hb5⟩;have S5:=hide (S4.out.drew.then hb5);clear hb5;obtain ⟨u0,u1,u2,u3,u4,s0,s1,s2,s3,s4⟩:=S5.out.hp.cells)|(go_at_call 152;go_fit (form_any n (w1.heap.size + 1) 0 (wh.length + fr.length) 512 (dlu wh++dlu fr) (powF pn pw - fr.length) W5 hdl.out (by omega) (by omega) (by omega) (by omega) S5.out.hz S5.out.hc (by omega) (by omega) hdgs.out);rintro e W6 ⟨rfl,hb6⟩;obtain ⟨fb,fs,fx,fe,hfe⟩:∃ fb fs fx fe,formF n (dlu wh++dlu fr) (powF pn pw - fr.length)=(fb,fs,fx,fe):=⟨_,_,_,_,rfl⟩;rw [hfe];have hfe:=hide hfe;have S6:=hide (S5.out.then hb6);clear hb6;obtain ⟨d20,d21,d22,g20,g21,g22⟩:=S6.out.hb.cells;simp only [retF]))
 all_goals
  go_wp2
  refine bodyPost_ret (v:=.tuple #[.agg #[.bool fb,.string fs,.int .i64 fx],.int .i64 fe]) (by simp [results,Tryz.results143,go_sem,d20,d21,d22]) rfl ⟨by rw [hfe.out];rfl,?_⟩
  exact ((S6.out.below.setCell (Nat.le_refl _) _).setCell (Nat.le_refl _) _).setCell (Nat.le_refl _) _
end Go.Proofs.YtpimjkdakjhoaaaGreatDoor
