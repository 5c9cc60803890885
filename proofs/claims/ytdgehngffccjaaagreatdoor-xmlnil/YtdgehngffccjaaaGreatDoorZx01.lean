/- Merged by program: WfBare, WbSize, WcBig, NbCount, NtText, NeArr. -/
import Derived.Test.YtdgehngffccjaaaGreatDoorZx00
import Derived.Deep.RegionWith
import Derived.Lib.Strings
namespace Go.Proofs.YtdgehngffccjaaaGreatDoor
open Go.RowKit
set_option linter.unusedSimpArgs false
set_option linter.unusedVariables false
set_option maxHeartbeats 8000000
def zr (k:Int):Hd:=⟨k,false,false,⟨#[]⟩,0,0,⟨#[]⟩,[]⟩
def strip (h:Hd):Hd:=⟨h.kind,bif h.kind==2 then false else h.flag,bif h.kind==3 then false else h.neg,bif h.kind==3 then ⟨#[]⟩ else h.dig,bif h.kind==3 then 0 else h.exp,bif h.kind==4 then 0 else h.bits,bif h.kind==5 || h.kind==6 || h.kind==9 then ⟨#[]⟩ else h.text,bif h.kind==8 then [] else h.names⟩
def Bare {α:Type} (h:Hd) (l:List α):Prop:=1≤h.kind∧h.kind≤9∧strip h=zr h.kind∧(7≤h.kind∨l=[])
theorem rd_zero (n:Nat) (w:World) (k:Int):RD (n + 1) w ((zr k,[]):VT (n + 1)) (.slice none 0 0) (.slice none 0 0):=⟨Or.inl ⟨rfl,rfl⟩,Or.inl ⟨rfl,rfl⟩⟩
set_option maxRecDepth 100000 in
theorem bare_1 (n:Nat) (h:Hd) (l:List (VT n)) (ns ls:Value) (w:World) (hr:RD (n + 1) w (h,l) ns ls) (hk:h.kind=1) :
  Calls Tryz.prog 88 #[.agg (vals h ns ls)] w fun e w'=>TB (Bare h l) w e w':=by
 obtain ⟨a1,m1,d1,a2,m2,d2,rfl,rfl⟩:=hr.shape
 have hr:=hide hr
 have hx:Bare h l↔(({h with kind:=1},l):VT (n + 1))=(zr 1,[]):=by
  obtain ⟨k,f,ng,dg,ex,bt,tx,nm⟩:=h
  simp only at hk
  subst hk
  simp [Bare,strip,zr]
 have hx':=hide hx
 have hE:=hide (fun o=>equal_any (n + 1) ({h with kind:=1},l) (zr 1,[]) (.slice a1 m1 d1) (.slice a2 m2 d2) _ _ (w.alloc o) ⟨(hr.out.below (below_al (o:=o) (Below.refl _ _))).1,(hr.out.below (below_al (o:=o) (Below.refl _ _))).2⟩ (rd_zero n _ 1))
 show Calls _ _ #[.agg #[.int .i64 h.kind,.bool h.flag,.bool h.neg,.string h.dig,.int .i64 h.exp,.int .u64 h.bits,.string h.text,.slice a1 m1 d1,.slice a2 m2 d2]] _ _
 rw [hk]
 clear hx hk
 go_enter Tryz.func88, Tryz.ntmps88
 go_wp2_with (go_at_call 117;refine (hE.out _).mono ?_;rintro e w1 ⟨b,rfl,hT,hb1⟩)
 go_ret
 exact ⟨b,rfl,(show Hid _ from ⟨(fun q=>hx'.out.2 (hT.1 q)),(fun q=>hT.2 (hx'.out.1 q))⟩),below_then (below_al (Below.refl _ _)) hb1⟩
set_option maxRecDepth 100000 in
theorem bare_2 (n:Nat) (h:Hd) (l:List (VT n)) (ns ls:Value) (w:World) (hr:RD (n + 1) w (h,l) ns ls) (hk:h.kind=2) :
  Calls Tryz.prog 88 #[.agg (vals h ns ls)] w fun e w'=>TB (Bare h l) w e w':=by
 obtain ⟨a1,m1,d1,a2,m2,d2,rfl,rfl⟩:=hr.shape
 have hr:=hide hr
 have hx:Bare h l↔(({h with kind:=2,flag:=false},l):VT (n + 1))=(zr 2,[]):=by
  obtain ⟨k,f,ng,dg,ex,bt,tx,nm⟩:=h
  simp only at hk
  subst hk
  simp [Bare,strip,zr]
 have hx':=hide hx
 have hE:=hide (fun o=>equal_any (n + 1) ({h with kind:=2,flag:=false},l) (zr 2,[]) (.slice a1 m1 d1) (.slice a2 m2 d2) _ _ (w.alloc o) ⟨(hr.out.below (below_al (o:=o) (Below.refl _ _))).1,(hr.out.below (below_al (o:=o) (Below.refl _ _))).2⟩ (rd_zero n _ 2))
 show Calls _ _ #[.agg #[.int .i64 h.kind,.bool h.flag,.bool h.neg,.string h.dig,.int .i64 h.exp,.int .u64 h.bits,.string h.text,.slice a1 m1 d1,.slice a2 m2 d2]] _ _
 rw [hk]
 clear hx hk
 go_enter Tryz.func88, Tryz.ntmps88
 go_wp2_with (go_at_call 117;refine (hE.out _).mono ?_;rintro e w1 ⟨b,rfl,hT,hb1⟩)
 go_ret
 exact ⟨b,rfl,(show Hid _ from ⟨(fun q=>hx'.out.2 (hT.1 q)),(fun q=>hT.2 (hx'.out.1 q))⟩),below_then (below_al (Below.refl _ _)) hb1⟩
set_option maxRecDepth 100000 in
theorem bare_3 (n:Nat) (h:Hd) (l:List (VT n)) (ns ls:Value) (w:World) (hr:RD (n + 1) w (h,l) ns ls) (hk:h.kind=3) :
  Calls Tryz.prog 88 #[.agg (vals h ns ls)] w fun e w'=>TB (Bare h l) w e w':=by
 obtain ⟨a1,m1,d1,a2,m2,d2,rfl,rfl⟩:=hr.shape
 have hr:=hide hr
 have hx:Bare h l↔(({h with kind:=3,neg:=false,dig:=⟨#[]⟩,exp:=0},l):VT (n + 1))=(zr 3,[]):=by
  obtain ⟨k,f,ng,dg,ex,bt,tx,nm⟩:=h
  simp only at hk
  subst hk
  simp [Bare,strip,zr]
 have hx':=hide hx
 have hE:=hide (fun o=>equal_any (n + 1) ({h with kind:=3,neg:=false,dig:=⟨#[]⟩,exp:=0},l) (zr 3,[]) (.slice a1 m1 d1) (.slice a2 m2 d2) _ _ (w.alloc o) ⟨(hr.out.below (below_al (o:=o) (Below.refl _ _))).1,(hr.out.below (below_al (o:=o) (Below.refl _ _))).2⟩ (rd_zero n _ 3))
 show Calls _ _ #[.agg #[.int .i64 h.kind,.bool h.flag,.bool h.neg,.string h.dig,.int .i64 h.exp,.int .u64 h.bits,.string h.text,.slice a1 m1 d1,.slice a2 m2 d2]] _ _
 rw [hk]
 clear hx hk
 go_enter Tryz.func88, Tryz.ntmps88
 go_wp2_with (go_at_call 117;refine (hE.out _).mono ?_;rintro e w1 ⟨b,rfl,hT,hb1⟩)
 go_ret
 exact ⟨b,rfl,(show Hid _ from ⟨(fun q=>hx'.out.2 (hT.1 q)),(fun q=>hT.2 (hx'.out.1 q))⟩),below_then (below_al (Below.refl _ _)) hb1⟩
set_option maxRecDepth 100000 in
theorem bare_4 (n:Nat) (h:Hd) (l:List (VT n)) (ns ls:Value) (w:World) (hr:RD (n + 1) w (h,l) ns ls) (hk:h.kind=4) :
  Calls Tryz.prog 88 #[.agg (vals h ns ls)] w fun e w'=>TB (Bare h l) w e w':=by
 obtain ⟨a1,m1,d1,a2,m2,d2,rfl,rfl⟩:=hr.shape
 have hr:=hide hr
 have hx:Bare h l↔(({h with kind:=4,bits:=0},l):VT (n + 1))=(zr 4,[]):=by
  obtain ⟨k,f,ng,dg,ex,bt,tx,nm⟩:=h
  simp only at hk
  subst hk
  simp [Bare,strip,zr]
 have hx':=hide hx
 have hE:=hide (fun o=>equal_any (n + 1) ({h with kind:=4,bits:=0},l) (zr 4,[]) (.slice a1 m1 d1) (.slice a2 m2 d2) _ _ (w.alloc o) ⟨(hr.out.below (below_al (o:=o) (Below.refl _ _))).1,(hr.out.below (below_al (o:=o) (Below.refl _ _))).2⟩ (rd_zero n _ 4))
 show Calls _ _ #[.agg #[.int .i64 h.kind,.bool h.flag,.bool h.neg,.string h.dig,.int .i64 h.exp,.int .u64 h.bits,.string h.text,.slice a1 m1 d1,.slice a2 m2 d2]] _ _
 rw [hk]
 clear hx hk
 go_enter Tryz.func88, Tryz.ntmps88
 go_wp2_with (go_at_call 117;refine (hE.out _).mono ?_;rintro e w1 ⟨b,rfl,hT,hb1⟩)
 go_ret
 exact ⟨b,rfl,(show Hid _ from ⟨(fun q=>hx'.out.2 (hT.1 q)),(fun q=>hT.2 (hx'.out.1 q))⟩),below_then (below_al (Below.refl _ _)) hb1⟩
set_option maxRecDepth 100000 in
theorem bare_5 (n:Nat) (h:Hd) (l:List (VT n)) (ns ls:Value) (w:World) (hr:RD (n + 1) w (h,l) ns ls) (hk:h.kind=5) :
  Calls Tryz.prog 88 #[.agg (vals h ns ls)] w fun e w'=>TB (Bare h l) w e w':=by
 obtain ⟨a1,m1,d1,a2,m2,d2,rfl,rfl⟩:=hr.shape
 have hr:=hide hr
 have hx:Bare h l↔(({h with kind:=5,text:=⟨#[]⟩},l):VT (n + 1))=(zr 5,[]):=by
  obtain ⟨k,f,ng,dg,ex,bt,tx,nm⟩:=h
  simp only at hk
  subst hk
  simp [Bare,strip,zr]
 have hx':=hide hx
 have hE:=hide (fun o=>equal_any (n + 1) ({h with kind:=5,text:=⟨#[]⟩},l) (zr 5,[]) (.slice a1 m1 d1) (.slice a2 m2 d2) _ _ (w.alloc o) ⟨(hr.out.below (below_al (o:=o) (Below.refl _ _))).1,(hr.out.below (below_al (o:=o) (Below.refl _ _))).2⟩ (rd_zero n _ 5))
 show Calls _ _ #[.agg #[.int .i64 h.kind,.bool h.flag,.bool h.neg,.string h.dig,.int .i64 h.exp,.int .u64 h.bits,.string h.text,.slice a1 m1 d1,.slice a2 m2 d2]] _ _
 rw [hk]
 clear hx hk
 go_enter Tryz.func88, Tryz.ntmps88
 go_wp2_with (go_at_call 117;refine (hE.out _).mono ?_;rintro e w1 ⟨b,rfl,hT,hb1⟩)
 go_ret
 exact ⟨b,rfl,(show Hid _ from ⟨(fun q=>hx'.out.2 (hT.1 q)),(fun q=>hT.2 (hx'.out.1 q))⟩),below_then (below_al (Below.refl _ _)) hb1⟩
set_option maxRecDepth 100000 in
theorem bare_6 (n:Nat) (h:Hd) (l:List (VT n)) (ns ls:Value) (w:World) (hr:RD (n + 1) w (h,l) ns ls) (hk:h.kind=6) :
  Calls Tryz.prog 88 #[.agg (vals h ns ls)] w fun e w'=>TB (Bare h l) w e w':=by
 obtain ⟨a1,m1,d1,a2,m2,d2,rfl,rfl⟩:=hr.shape
 have hr:=hide hr
 have hx:Bare h l↔(({h with kind:=6,text:=⟨#[]⟩},l):VT (n + 1))=(zr 6,[]):=by
  obtain ⟨k,f,ng,dg,ex,bt,tx,nm⟩:=h
  simp only at hk
  subst hk
  simp [Bare,strip,zr]
 have hx':=hide hx
 have hE:=hide (fun o=>equal_any (n + 1) ({h with kind:=6,text:=⟨#[]⟩},l) (zr 6,[]) (.slice a1 m1 d1) (.slice a2 m2 d2) _ _ (w.alloc o) ⟨(hr.out.below (below_al (o:=o) (Below.refl _ _))).1,(hr.out.below (below_al (o:=o) (Below.refl _ _))).2⟩ (rd_zero n _ 6))
 show Calls _ _ #[.agg #[.int .i64 h.kind,.bool h.flag,.bool h.neg,.string h.dig,.int .i64 h.exp,.int .u64 h.bits,.string h.text,.slice a1 m1 d1,.slice a2 m2 d2]] _ _
 rw [hk]
 clear hx hk
 go_enter Tryz.func88, Tryz.ntmps88
 go_wp2_with (go_at_call 117;refine (hE.out _).mono ?_;rintro e w1 ⟨b,rfl,hT,hb1⟩)
 go_ret
 exact ⟨b,rfl,(show Hid _ from ⟨(fun q=>hx'.out.2 (hT.1 q)),(fun q=>hT.2 (hx'.out.1 q))⟩),below_then (below_al (Below.refl _ _)) hb1⟩
set_option maxRecDepth 100000 in
theorem bare_7 (n:Nat) (h:Hd) (l:List (VT n)) (ns ls:Value) (w:World) (hr:RD (n + 1) w (h,l) ns ls) (hk:h.kind=7) :
  Calls Tryz.prog 88 #[.agg (vals h ns ls)] w fun e w'=>TB (Bare h l) w e w':=by
 obtain ⟨a1,m1,d1,a2,m2,d2,rfl,rfl⟩:=hr.shape
 have hr:=hide hr
 have hx:Bare h l↔(({h with kind:=7},[]):VT (n + 1))=(zr 7,[]):=by
  obtain ⟨k,f,ng,dg,ex,bt,tx,nm⟩:=h
  simp only at hk
  subst hk
  simp [Bare,strip,zr]
 have hx':=hide hx
 have hE:=hide (fun o=>equal_any (n + 1) ({h with kind:=7},[]) (zr 7,[]) (.slice a1 m1 d1) (.slice none 0 0) _ _ (w.alloc o) ⟨(hr.out.below (below_al (o:=o) (Below.refl _ _))).1,Or.inl ⟨rfl,rfl⟩⟩ (rd_zero n _ 7))
 show Calls _ _ #[.agg #[.int .i64 h.kind,.bool h.flag,.bool h.neg,.string h.dig,.int .i64 h.exp,.int .u64 h.bits,.string h.text,.slice a1 m1 d1,.slice a2 m2 d2]] _ _
 rw [hk]
 clear hx hk
 go_enter Tryz.func88, Tryz.ntmps88
 go_wp2_with (go_at_call 117;refine (hE.out _).mono ?_;rintro e w1 ⟨b,rfl,hT,hb1⟩)
 go_ret
 exact ⟨b,rfl,(show Hid _ from ⟨(fun q=>hx'.out.2 (hT.1 q)),(fun q=>hT.2 (hx'.out.1 q))⟩),below_then (below_al (Below.refl _ _)) hb1⟩
set_option maxRecDepth 100000 in
theorem bare_8 (n:Nat) (h:Hd) (l:List (VT n)) (ns ls:Value) (w:World) (hr:RD (n + 1) w (h,l) ns ls) (hk:h.kind=8) :
  Calls Tryz.prog 88 #[.agg (vals h ns ls)] w fun e w'=>TB (Bare h l) w e w':=by
 obtain ⟨a1,m1,d1,a2,m2,d2,rfl,rfl⟩:=hr.shape
 have hr:=hide hr
 have hx:Bare h l↔(({h with kind:=8,names:=[]},[]):VT (n + 1))=(zr 8,[]):=by
  obtain ⟨k,f,ng,dg,ex,bt,tx,nm⟩:=h
  simp only at hk
  subst hk
  simp [Bare,strip,zr]
 have hx':=hide hx
 have hE:=hide (fun o=>equal_any (n + 1) ({h with kind:=8,names:=[]},[]) (zr 8,[]) (.slice none 0 0) (.slice none 0 0) _ _ (w.alloc o) ⟨Or.inl ⟨rfl,rfl⟩,Or.inl ⟨rfl,rfl⟩⟩ (rd_zero n _ 8))
 show Calls _ _ #[.agg #[.int .i64 h.kind,.bool h.flag,.bool h.neg,.string h.dig,.int .i64 h.exp,.int .u64 h.bits,.string h.text,.slice a1 m1 d1,.slice a2 m2 d2]] _ _
 rw [hk]
 clear hx hk
 go_enter Tryz.func88, Tryz.ntmps88
 go_wp2_with (go_at_call 117;refine (hE.out _).mono ?_;rintro e w1 ⟨b,rfl,hT,hb1⟩)
 go_ret
 exact ⟨b,rfl,(show Hid _ from ⟨(fun q=>hx'.out.2 (hT.1 q)),(fun q=>hT.2 (hx'.out.1 q))⟩),below_then (below_al (Below.refl _ _)) hb1⟩
set_option maxRecDepth 100000 in
theorem bare_9 (n:Nat) (h:Hd) (l:List (VT n)) (ns ls:Value) (w:World) (hr:RD (n + 1) w (h,l) ns ls) (hk:h.kind=9) :
  Calls Tryz.prog 88 #[.agg (vals h ns ls)] w fun e w'=>TB (Bare h l) w e w':=by
 obtain ⟨a1,m1,d1,a2,m2,d2,rfl,rfl⟩:=hr.shape
 have hr:=hide hr
 have hx:Bare h l↔(({h with kind:=9,text:=⟨#[]⟩},[]):VT (n + 1))=(zr 9,[]):=by
  obtain ⟨k,f,ng,dg,ex,bt,tx,nm⟩:=h
  simp only at hk
  subst hk
  simp [Bare,strip,zr]
 have hx':=hide hx
 have hE:=hide (fun o=>equal_any (n + 1) ({h with kind:=9,text:=⟨#[]⟩},[]) (zr 9,[]) (.slice a1 m1 d1) (.slice none 0 0) _ _ (w.alloc o) ⟨(hr.out.below (below_al (o:=o) (Below.refl _ _))).1,Or.inl ⟨rfl,rfl⟩⟩ (rd_zero n _ 9))
 show Calls _ _ #[.agg #[.int .i64 h.kind,.bool h.flag,.bool h.neg,.string h.dig,.int .i64 h.exp,.int .u64 h.bits,.string h.text,.slice a1 m1 d1,.slice a2 m2 d2]] _ _
 rw [hk]
 clear hx hk
 go_enter Tryz.func88, Tryz.ntmps88
 go_wp2_with (go_at_call 117;refine (hE.out _).mono ?_;rintro e w1 ⟨b,rfl,hT,hb1⟩)
 go_ret
 exact ⟨b,rfl,(show Hid _ from ⟨(fun q=>hx'.out.2 (hT.1 q)),(fun q=>hT.2 (hx'.out.1 q))⟩),below_then (below_al (Below.refl _ _)) hb1⟩
set_option maxRecDepth 100000 in
theorem isBare_any (n:Nat) (h:Hd) (l:List (VT n)) (ns ls:Value) (w:World) (hr:RD (n + 1) w (h,l) ns ls) :
  Calls Tryz.prog 88 #[.agg (vals h ns ls)] w fun e w'=>TB (Bare h l) w e w':=by
 by_cases k1:h.kind=1
 ·exact bare_1 n h l ns ls w hr k1
 by_cases k2:h.kind=2
 ·exact bare_2 n h l ns ls w hr k2
 by_cases k3:h.kind=3
 ·exact bare_3 n h l ns ls w hr k3
 by_cases k4:h.kind=4
 ·exact bare_4 n h l ns ls w hr k4
 by_cases k5:h.kind=5
 ·exact bare_5 n h l ns ls w hr k5
 by_cases k6:h.kind=6
 ·exact bare_6 n h l ns ls w hr k6
 by_cases k7:h.kind=7
 ·exact bare_7 n h l ns ls w hr k7
 by_cases k8:h.kind=8
 ·exact bare_8 n h l ns ls w hr k8
 by_cases k9:h.kind=9
 ·exact bare_9 n h l ns ls w hr k9
 have hx:¬ Bare h l:=by
  rintro ⟨q1,q2,_⟩
  omega
 have hx':=hide hx
 obtain ⟨a1,m1,d1,a2,m2,d2,rfl,rfl⟩:=hr.shape
 clear hx hr
 show Calls _ _ #[.agg #[.int .i64 h.kind,.bool h.flag,.bool h.neg,.string h.dig,.int .i64 h.exp,.int .u64 h.bits,.string h.text,.slice a1 m1 d1,.slice a2 m2 d2]] _ _
 go_enter Tryz.func88, Tryz.ntmps88
 go_wp2_with fail
 go_ret
 exact TB.no hx'.out (below_al (Below.refl _ _))
def mxl:List Nat→Nat
 | []=>0
 | a :: l=>max a (mxl l)
theorem mxl_app (a b:List Nat):mxl (a++b)=max (mxl a) (mxl b):=by
 induction a with
 | nil=>simp [mxl]
 | cons x a ih=>simp only [List.cons_append,mxl,ih];omega
def suml:List Nat→Nat
 | []=>0
 | a :: l=>a + suml l
theorem suml_app (a b:List Nat):suml (a++b)=suml a + suml b:=by
 induction a with
 | nil=>simp [suml]
 | cons x a ih=>simp only [List.cons_append,suml,ih];omega
theorem mxl_take (l:List Nat) (i:Nat) (h:i<l.length):mxl (l.take (i + 1))=max (mxl (l.take i)) l[i]:=by
 rw [List.take_succ_eq_append_getElem h,mxl_app];simp [mxl]
theorem suml_take (l:List Nat) (i:Nat) (h:i<l.length):suml (l.take (i + 1))=suml (l.take i) + l[i]:=by
 rw [List.take_succ_eq_append_getElem h,suml_app];simp [suml]
theorem suml_take_le (l:List Nat) (i:Nat):suml (l.take i)≤suml l:=by
 have:=suml_app (l.take i) (l.drop i)
 rw [List.take_append_drop] at this
 omega
theorem mxl_le {l m:List Nat} (h:∀ i (h1:i<l.length) (h2:i<m.length),l[i]≤m[i]) (hl:l.length=m.length):mxl l≤suml m:=by
 induction l generalizing m with
 | nil=>exact Nat.zero_le _
 | cons a l ih =>
  cases m with
  | nil=>simp at hl
  | cons b m =>
   have h0:=h 0 (by simp) (by simp)
   have:=ih (m:=m) (fun i h1 h2=>h (i + 1) (by simp;omega) (by simp;omega)) (by simpa using hl)
   simp only [List.getElem_cons_zero] at h0
   simp only [mxl,suml];omega
def dep:(n:Nat)→VT n→Nat
 | 0,_=>0
 | n + 1,x=>1 + mxl (x.2.map (dep n))
def siz:(n:Nat)→VT n→Nat
 | 0,_=>0
 | n + 1,x=>1 + suml (x.2.map (siz n))
theorem dep_le:∀ (n:Nat) (x:VT n),dep n x≤siz n x
 | 0,x=>Empty.elim x
 | n + 1,x=>by
  simp only [dep,siz]
  have:=mxl_le (l:=x.2.map (dep n)) (m:=x.2.map (siz n)) (fun i h1 h2=>by simp only [List.getElem_map];exact dep_le n _) (by simp)
  omega
theorem suml_mem {l:List Nat} {i:Nat} (h:i<l.length):l[i]≤suml l:=by
 have h1:=suml_take l i h
 have h2:=suml_take_le l (i + 1)
 omega
theorem siz_mem {n:Nat} {x:VT (n + 1)} {i:Nat} (h:i<x.2.length):siz n x.2[i]<siz (n + 1) x:=by
 have:=suml_mem (l:=x.2.map (siz n)) (i:=i) (by simpa using h)
 simp only [List.getElem_map] at this
 simp only [siz];omega
set_option maxRecDepth 100000 in
theorem depth_any:∀ (n:Nat) (x:VT n) (ns ls:Value) (w:World),RD n w x ns ls→siz n x≤200000 →
  Calls Tryz.prog 64 #[.agg (vals (vhd n x) ns ls)] w fun e w'=>e=.returned (.int .i64 (dep n x))∧Below w.heap.size w w':=by
 intro n
 induction n with
 | zero=>intro x;exact Empty.elim x
 | succ n ih =>
  intro x ns ls w hr hs
  obtain ⟨h,l⟩:=x
  obtain ⟨al,cl,rfl,hc1,hc2⟩:=hr.len
  have hr:=hide hr
  have ih':=hide ih
  have hs':=hide hs
  clear ih hs
  show Calls _ _ #[.agg #[.int .i64 h.kind,.bool h.flag,.bool h.neg,.string h.dig,.int .i64 h.exp,.int .u64 h.bits,.string h.text,ns,.slice al l.length cl]] _ _
  go_enter Tryz.func64, Tryz.ntmps64
  go_wp2_with fail
  go_loopw [3,9] (fun m i w'=>∃ k:Nat,m=.int .i64 (mxl ((l.map (dep n)).take k):Nat)∧i=.int .i64 k∧k≤l.length∧Hid (Below w.heap.size w w')) (fun _ i _=>l.length - (intOf i).toNat)
  case atStart=>exact ⟨0,rfl,rfl,Nat.zero_le _,below_al (Below.refl _ _)⟩
  case round =>
   obtain ⟨k,rfl,rfl,hk,hb⟩:=hrel
   have ml:maxLen=9223372036854775807:=rfl
   have hk63:(k:Int)≤9223372036854775807:=by omega
   by_cases hkl:k<l.length
   ·obtain ⟨b,o,c,he,hbl,hlc,hcm,ns',ls',hrg,hrd⟩:=hr.out.at k hkl
    have he':=Value.slice.inj he
    obtain ⟨rfl,_,rfl⟩:=he'
    clear he
    have hki:(k:Int)<(l.length:Int):=by omega
    have hk63:(k:Int)<9223372036854775807:=by omega
    obtain ⟨c0,c1,c2,c3,c4,c5,c6,c7,c8⟩:=range9 (rangeAt_below hrg hb.out hbl)
    have hrd':=hide (hrd.below hb.out)
    obtain ⟨a1,m1,d1,a2,m2,d2,rfl,rfl⟩:=hrd.shape
    clear hrg hrd
    have hsk:siz n l[k]≤200000:=by have h1:=siz_mem (x:=(h,l)) hkl;have h2:=hs'.out;simp only at h1;omega
    obtain ⟨D,hD⟩:∃ D,dep n l[k]=D:=⟨_,rfl⟩
    have hmx:=mxl_take (l.map (dep n)) k (by simpa using hkl)
    rw [List.getElem_map,hD] at hmx
    have hcall:=hide (fun o=>ih'.out l[k] (.slice a1 m1 d1) (.slice a2 m2 d2) (wr.alloc o) (hrd'.out.below (below_al (Below.refl _ _))) hsk)
    rw [hD] at hcall
    obtain ⟨M,hM⟩:∃ M,mxl ((l.map (dep n)).take k)=M:=⟨_,rfl⟩
    rw [hM] at hmx ⊢
    have hmx':=hide hmx
    have hD':=hide hD
    have hM':=hide hM
    clear hD hM hsk hmx
    rcases Nat.lt_trichotomy M D with hlt|hlt|hlt
    ·have hdi:(M:Int)<(D:Int):=by omega
     have hdj:¬ ((D:Int)<(M:Int)):=by omega
     go_wp2_with (go_at_call 64;refine (hcall.out _).mono ?_;rintro e w1 ⟨rfl,hb1⟩)
     exact ⟨⟨k + 1,by rw [hmx'.out];congr 2;omega,by go_num,by omega,below_then (below_al hb.out) hb1⟩,by simp [intOf];omega⟩
    ·subst hlt
     have hdi:¬ ((M:Int)<(M:Int)):=by omega
     go_wp2_with (go_at_call 64;refine (hcall.out _).mono ?_;rintro e w1 ⟨rfl,hb1⟩)
     exact ⟨⟨k + 1,by rw [hmx'.out];congr 2;omega,by go_num,by omega,below_then (below_al hb.out) hb1⟩,by simp [intOf];omega⟩
    ·have hdi:(D:Int)<(M:Int):=by omega
     have hdj:¬ ((M:Int)<(D:Int)):=by omega
     go_wp2_with (go_at_call 64;refine (hcall.out _).mono ?_;rintro e w1 ⟨rfl,hb1⟩)
     exact ⟨⟨k + 1,by rw [hmx'.out];congr 2;omega,by go_num,by omega,below_then (below_al hb.out) hb1⟩,by simp [intOf];omega⟩
   ·have hki:¬ ((k:Int)<(l.length:Int)):=by omega
    have hkl2:k=l.length:=by omega
    have hD:dep (n + 1) (h,l)=1 + mxl ((l.map (dep n)).take k):=by
     simp only [dep]
     rw [List.take_of_length_le (by simp;omega)]
    have hsz:1 + mxl ((l.map (dep n)).take k)≤200000:=by
     rw [←hD];exact Nat.le_trans (dep_le _ _) hs'.out
    obtain ⟨M,hM⟩:∃ M,mxl ((l.map (dep n)).take k)=M:=⟨_,rfl⟩
    rw [hM] at hsz hD ⊢
    have hD':=hide hD
    clear hD hM hkl2
    have hM2:(M:Int)<200000:=by omega
    clear hsz
    go_wp2_with fail
    go_ret
    exact ⟨by rw [hD'.out];exact ret_int (by omega),hb.out⟩
set_option maxRecDepth 100000 in
theorem size_any:∀ (n:Nat) (x:VT n) (ns ls:Value) (w:World),RD n w x ns ls→siz n x≤200000 →
  Calls Tryz.prog 65 #[.agg (vals (vhd n x) ns ls)] w fun e w'=>e=.returned (.int .i64 (siz n x))∧Below w.heap.size w w':=by
 intro n
 induction n with
 | zero=>intro x;exact Empty.elim x
 | succ n ih =>
  intro x ns ls w hr hs
  obtain ⟨h,l⟩:=x
  obtain ⟨al,cl,rfl,hc1,hc2⟩:=hr.len
  have hr:=hide hr
  have ih':=hide ih
  have hs':=hide hs
  clear ih hs
  show Calls _ _ #[.agg #[.int .i64 h.kind,.bool h.flag,.bool h.neg,.string h.dig,.int .i64 h.exp,.int .u64 h.bits,.string h.text,ns,.slice al l.length cl]] _ _
  go_enter Tryz.func65, Tryz.ntmps65
  go_wp2_with fail
  go_loopw [3,9] (fun m i w'=>∃ k:Nat,m=.int .i64 (1 + suml ((l.map (siz n)).take k):Nat)∧i=.int .i64 k∧k≤l.length∧Hid (Below w.heap.size w w')) (fun _ i _=>l.length - (intOf i).toNat)
  case atStart=>exact ⟨0,rfl,rfl,Nat.zero_le _,below_al (Below.refl _ _)⟩
  case round =>
   obtain ⟨k,rfl,rfl,hk,hb⟩:=hrel
   have ml:maxLen=9223372036854775807:=rfl
   have hk63:(k:Int)≤9223372036854775807:=by omega
   obtain ⟨M,hM⟩:∃ M,1 + suml ((l.map (siz n)).take k)=M:=⟨_,rfl⟩
   have hMle:M≤200000:=by
    have h1:=suml_take_le (l.map (siz n)) k
    have h2:=hs'.out
    simp only [siz] at h2
    omega
   by_cases hkl:k<l.length
   ·obtain ⟨b,o,c,he,hbl,hlc,hcm,ns',ls',hrg,hrd⟩:=hr.out.at k hkl
    have he':=Value.slice.inj he
    obtain ⟨rfl,_,rfl⟩:=he'
    clear he
    have hki:(k:Int)<(l.length:Int):=by omega
    have hk63:(k:Int)<9223372036854775807:=by omega
    obtain ⟨c0,c1,c2,c3,c4,c5,c6,c7,c8⟩:=range9 (rangeAt_below hrg hb.out hbl)
    have hrd':=hide (hrd.below hb.out)
    obtain ⟨a1,m1,d1,a2,m2,d2,rfl,rfl⟩:=hrd.shape
    clear hrg hrd
    have hsk:siz n l[k]≤200000:=by have h1:=siz_mem (x:=(h,l)) hkl;have h2:=hs'.out;simp only at h1;omega
    obtain ⟨D,hD⟩:∃ D,siz n l[k]=D:=⟨_,rfl⟩
    have hmx:=suml_take (l.map (siz n)) k (by simpa using hkl)
    rw [List.getElem_map,hD] at hmx
    have hcall:=hide (fun o=>ih'.out l[k] (.slice a1 m1 d1) (.slice a2 m2 d2) (wr.alloc o) (hrd'.out.below (below_al (Below.refl _ _))) hsk)
    rw [hD] at hcall hsk
    have hmx:1 + suml ((l.map (siz n)).take (k + 1))=M + D:=by omega
    rw [hM]
    have hmx':=hide hmx
    have hD1:(D:Int)≤200000:=by omega
    have hM1:(M:Int)≤200000:=by omega
    clear hD hM hsk hmx hMle
    go_wp2_with (go_at_call 65;refine (hcall.out _).mono ?_;rintro e w1 ⟨rfl,hb1⟩)
    exact ⟨⟨k + 1,by rw [hmx'.out];first|rfl|(congr 1),by go_num,by omega,below_then (below_al hb.out) hb1⟩,by simp [intOf];omega⟩
   ·have hki:¬ ((k:Int)<(l.length:Int)):=by omega
    have hD:siz (n + 1) (h,l)=M:=by
     rw [←hM]
     simp only [siz]
     rw [List.take_of_length_le (by simp;omega)]
    rw [hM]
    have hD':=hide hD
    clear hD hM hMle
    go_wp2_with fail
    go_ret
    exact ⟨by rw [hD'.out];rfl,hb.out⟩
def blk:(n:Nat)→VT n→Nat
 | 0,_=>0
 | n + 1,x=>1 + x.1.text.size + x.1.dig.size + x.1.names.length + suml (x.1.names.map ByteArray.size) + suml (x.2.map (blk n))
def Sz:(n:Nat)→VT n→Prop
 | 0,_=>True
 | n + 1,x=>x.1.text.size≤281474976710656∧x.1.dig.size≤281474976710656∧x.1.names.length≤281474976710656∧(∀ s∈x.1.names,s.size≤281474976710656)∧∀ y∈x.2,Sz n y
theorem countDigits_any (s:ByteArray) (w:World) (hs:s.size≤maxLen) :
  Calls Tryz.prog 154 #[.string s] w fun e w'=>e=.returned (.int .i64 (cntD (bl s)))∧w'=w:=by
 unfold maxLen at hs
 go_enter Tryz.func154, Tryz.ntmps154
 go_wp2
 go_loop [3] (fun i=>∃ k:Nat,k≤s.size∧i=.int .i64 k∧∀ j (hj:j<k) (h:j<s.size),isDig s[j]=true) (fun i=>s.size - (intOf i).toNat)
 case atStart=>exact ⟨0,Nat.zero_le _,rfl,by omega⟩
 case round =>
  obtain ⟨k,hk,rfl,hall⟩:=hrel
  by_cases hlt:k<s.size
  ·by_cases hd:isDig s[k]=true
   ·have hd':=(isDig_iff _).1 hd
    have h1:=hd'.1
    have h2:=hd'.2
    have HH:Hid (isDig s[k]=true):=hd
    clear hd hd'
    go_wp2
    go_round
    case rel=>exact ⟨k + 1,by omega,by go_num,fun j hj h=>by
     by_cases e:j=k
     ·subst e;exact HH.out
     ·exact hall j (by omega) h⟩
    case measure=>simp [intOf];omega
   ·have HH:Hid (isDig s[k]=false):=(Bool.not_eq_true _).mp hd
    have hd':¬ (48≤(s[k].toNat:Int)∧(s[k].toNat:Int)≤57):=fun h=>hd ((isDig_iff _).2 h)
    clear hd
    go_wp2
    all_goals
     go_ret
     exact ⟨ret_int (by rw [cntD_of s k hk hall (fun _=>HH.out)]),rfl⟩
  ·go_wp2
   go_ret
   exact ⟨ret_int (by rw [cntD_of s k hk hall (fun h=>absurd h hlt)]),rfl⟩
theorem areDigits_any (s:ByteArray) (w:World) (hs:s.size≤maxLen) :
  Calls Tryz.prog 135 #[.string s] w fun e w'=>e=.returned (.bool (allD (bl s)))∧w'=w:=by
 have hc:((cntD (bl s):Int)==(s.size:Int))=allD (bl s):=by
  rw [Bool.eq_iff_iff,←cntD_all,bl_length];simp;omega
 go_enter Tryz.func135, Tryz.ntmps135
 go_wp2_with (go_at_call 154;refine (countDigits_any _ _ hs).mono ?_;rintro e w' ⟨rfl,rfl⟩)
 go_ret
 exact ⟨rfl,rfl⟩
theorem expFits_any (x:Int) (w:World) :
  Calls Tryz.prog 134 #[.int .i64 x] w fun e w'=>e=.returned (.bool (decide (-400≤x∧x≤400)))∧w'=w:=by
 by_cases h:-400≤x
 ·go_enter Tryz.func134, Tryz.ntmps134
  go_wp2
  go_ret
  exact ⟨ret_bool (by simp [h]),rfl⟩
 ·go_enter Tryz.func134, Tryz.ntmps134
  go_wp2
  go_ret
  exact ⟨ret_bool (by simp;omega),rfl⟩
theorem isZero_any (neg:Bool) (s:ByteArray) (x:Int) (w:World) :
  Calls Tryz.prog 112 #[.agg #[.bool neg,.string s,.int .i64 x]] w fun e w'=>e=.returned (.bool (isZ neg s x))∧Below w.heap.size w w':=by
 go_enter Tryz.func112, Tryz.ntmps112
 go_wp2
 all_goals
  go_ret
  refine ⟨ret_bool ?_,(Below.refl _ _).alloc (Nat.le_refl _) _⟩
  simp_all [isZ,bl_toList]
theorem isOther_any (neg:Bool) (s:ByteArray) (x:Int) (w:World) (hs:s.size≤maxLen) :
  Calls Tryz.prog 113 #[.agg #[.bool neg,.string s,.int .i64 x]] w fun e w'=>e=.returned (.bool (isO (bl s) x))∧Below w.heap.size w w':=by
 by_cases h1:s.size<1
 ·go_enter Tryz.func113, Tryz.ntmps113
  go_wp2
  go_ret
  exact ⟨ret_bool (by simp [isO,bl_length];omega),(Below.refl _ _).alloc (Nat.le_refl _) _⟩
 have HO:=hide (isO_at s x (by omega))
 by_cases h2:40<s.size
 ·go_enter Tryz.func113, Tryz.ntmps113
  go_wp2
  go_ret
  exact ⟨ret_bool (by rw [HO.out];simp;omega),(Below.refl _ _).alloc (Nat.le_refl _) _⟩
 by_cases h3:-400≤x∧x≤400
 ·have e3:decide (-400≤x∧x≤400)=true:=decide_eq_true h3
  cases h4:allD (bl s)
  all_goals
   go_enter Tryz.func113, Tryz.ntmps113
   go_wp2_with (first|(go_at_call 134;refine (expFits_any _ _).mono ?_;rintro e w' ⟨rfl,rfl⟩)|(go_at_call 135;refine (areDigits_any _ _ hs).mono ?_;rintro e w' ⟨rfl,rfl⟩))
  all_goals
   go_ret
   refine ⟨ret_bool ?_,(Below.refl _ _).alloc (Nat.le_refl _) _⟩
   have h2':s.size≤40:=by omega
   rw [HO.out,h4,e3]
   simp only [←bne48]
   simp [h2', *]
 ·have e3:decide (-400≤x∧x≤400)=false:=decide_eq_false h3
  go_enter Tryz.func113, Tryz.ntmps113
  go_wp2_with (go_at_call 134;refine (expFits_any _ _).mono ?_;rintro e w' ⟨rfl,rfl⟩)
  go_ret
  exact ⟨ret_bool (by rw [HO.out,e3];simp),(Below.refl _ _).alloc (Nat.le_refl _) _⟩
theorem check_ok (neg:Bool) (s:ByteArray) (x:Int) (w:World) (hs:s.size≤maxLen) (h:isN neg s x=true) :
  Calls Tryz.prog 80 #[.agg #[.bool neg,.string s,.int .i64 x]] w fun e w'=>e=.returned (.int .i64 0)∧Below w.heap.size w w':=by
 cases hz:isZ neg s x
 ·have ho:isO (bl s) x=true:=by simpa [isN,hz] using h
  go_enter Tryz.func80, Tryz.ntmps80
  go_wp2_with fail
  refine (isZero_any neg s x _).mono ?_
  rw [hz]
  rintro e w1 ⟨rfl,hb⟩
  obtain ⟨hc,hf⟩:=bcell hb
  go_wp2_with fail
  refine (isOther_any neg s x _ hs).mono ?_
  rw [ho]
  rintro e w2 ⟨rfl,hb2⟩
  go_wp2
  go_ret
  exact ⟨rfl,below_then (below_alloc hb) hb2⟩
 ·go_enter Tryz.func80, Tryz.ntmps80
  go_wp2_with fail
  refine (isZero_any neg s x _).mono ?_
  rw [hz]
  rintro e w1 ⟨rfl,hb⟩
  go_wp2_with fail
  go_ret
  exact ⟨rfl,below_alloc hb⟩
theorem check_no (neg:Bool) (s:ByteArray) (x:Int) (w:World) (hs:s.size≤maxLen) (h:isN neg s x=false) :
  Calls Tryz.prog 80 #[.agg #[.bool neg,.string s,.int .i64 x]] w fun e w'=>e=.returned (.int .i64 10)∧Below w.heap.size w w':=by
 have hz:isZ neg s x=false:=by simp [isN] at h;exact h.1
 have ho:isO (bl s) x=false:=by simp [isN] at h;exact h.2
 go_enter Tryz.func80, Tryz.ntmps80
 go_wp2_with fail
 refine (isZero_any neg s x _).mono ?_
 rw [hz]
 rintro e w1 ⟨rfl,hb⟩
 obtain ⟨hc,hf⟩:=bcell hb
 go_wp2_with fail
 refine (isOther_any neg s x _ hs).mono ?_
 rw [ho]
 rintro e w2 ⟨rfl,hb2⟩
 go_wp2
 go_ret
 exact ⟨rfl,below_then (below_alloc hb) hb2⟩
def mkB (l:List UInt8):ByteArray:=⟨l.toArray⟩
theorem bl_mkB (l:List UInt8):bl (mkB l)=l:=by simp [bl,mkB]
theorem mkB_size (l:List UInt8):(mkB l).size=l.length:=by rw [←bl_length,bl_mkB]
theorem mkB_bl (s:ByteArray):mkB (bl s)=s:=by cases s;simp [bl,mkB]
theorem mkB_nil (l:List UInt8):(mkB l).toList.isEmpty=l.isEmpty:=by rw [bl_toList,bl_mkB]
theorem extract_mkB (s:ByteArray) (a b:Nat):s.extract a b=mkB (((bl s).drop a).take (b - a)):=Lib.extract_eq s a b
theorem drop_mkB (s:ByteArray) (a:Nat):s.extract a s.size=mkB ((bl s).drop a):=by
 rw [extract_mkB,List.take_of_length_le (by rw [List.length_drop,bl_length];omega)]
def hdB (c:UInt8) (l:List UInt8):Bool:=l.head?==some c
def tlB (c:UInt8) (l:List UInt8):List UInt8:=if hdB c l then l.drop 1 else l
theorem hdB_size (c:UInt8) (s:ByteArray) (h:0<s.size):hdB c (bl s)=(s[0]==c):=by
 unfold hdB;rw [head_bl s h];rfl
theorem tlB_length (c:UInt8) (l:List UInt8):(tlB c l).length≤l.length:=by
 unfold tlB;split <;> simp
theorem take_tw (p:UInt8→Bool) (l:List UInt8):l.take (l.takeWhile p).length=l.takeWhile p:=by
 induction l with
 | nil=>rfl
 | cons a l ih=>by_cases h:p a=true <;> simp [h,ih]
theorem drop_tw (p:UInt8→Bool) (l:List UInt8):l.drop (l.takeWhile p).length=l.dropWhile p:=by
 induction l with
 | nil=>rfl
 | cons a l ih=>by_cases h:p a=true <;> simp [h,ih]
theorem cutByte_any (s:ByteArray) (c:UInt8) (ci:Int) (w:World) (hci:ci=c.toNat) (hs:s.size≤100000) :
  Calls Tryz.prog 188 #[.string s,.int .u8 ci] w fun e w'=>e=.returned (.tuple #[.bool (hdB c (bl s)),.string (mkB (tlB c (bl s)))])∧Below w.heap.size w w':=by
 by_cases h0:s.size=0
 ·have hl:bl s=[]:=List.eq_nil_of_length_eq_zero (by rw [bl_length];exact h0)
  have he:s.toList.isEmpty=true:=by rw [bl_toList,hl];rfl
  have e1:=hide (show hdB c (bl s)=false by rw [hl];rfl)
  have e2:=hide (show mkB (tlB c (bl s))=s by rw [tlB,e1.out];simp [mkB_bl])
  clear hl h0
  go_enter Tryz.func188, Tryz.ntmps188
  go_wp2
  go_ret2
  exact ⟨by rw [e1.out,e2.out];rfl,Below.refl _ _⟩
 ·have he:s.toList.isEmpty=false:=by
   rw [bl_toList];cases hb:bl s with
   | nil=>have:=bl_length s;rw [hb] at this;simp at this;omega
   | cons _ _=>rfl
  have hsz:0<s.size:=by omega
  have hsz':(0:Int)<s.size:=by omega
  have hh:=hide (hdB_size c s hsz)
  cases hc:hdB c (bl s)
  ·have hb:((s[0].toNat:Int) != ci)=true:=by
    rw [hh.out] at hc
    rw [bne_iff_ne,hci];intro e
    have:=UInt8.toNat_inj.1 (by omega:s[0].toNat=c.toNat)
    rw [this] at hc;simp at hc
   have e2:=hide (show mkB (tlB c (bl s))=s by rw [tlB,hc];simp [mkB_bl])
   clear hci h0
   go_enter Tryz.func188, Tryz.ntmps188
   go_wp2
   go_ret2
   exact ⟨by rw [e2.out];rfl,Below.refl _ _⟩
  ·have hb:((s[0].toNat:Int) != ci)=false:=by
    rw [hh.out] at hc
    simp only [beq_iff_eq] at hc
    rw [hc,hci];simp
   have e2:=hide (show mkB (tlB c (bl s))=s.extract 1 s.size by rw [drop_mkB,tlB,hc];rfl)
   have h1:(1:Int)≤s.size:=by omega
   clear hci h0
   go_enter Tryz.func188, Tryz.ntmps188
   go_wp2
   go_region
   all_goals
    go_wp2
    go_ret2
    exact ⟨by rw [e2.out];rfl,(Below.refl _ _).drew⟩
theorem cutDigits_any (s:ByteArray) (w:World) (hs:s.size≤100000) :
  Calls Tryz.prog 189 #[.string s] w fun e w'=>e=.returned (.tuple #[.string (mkB ((bl s).takeWhile isDig)),.string (mkB ((bl s).dropWhile isDig))])∧Below w.heap.size w w':=by
 have ml:maxLen=2 ^ 63 - 1:=rfl
 obtain ⟨k,hk⟩:∃ k,cntD (bl s)=k:=⟨_,rfl⟩
 have hle:k≤s.size:=by rw [←hk,←bl_length];exact cntD_le _
 have e0:(bl s).takeWhile isDig++(bl s).dropWhile isDig=bl s:=List.takeWhile_append_dropWhile
 have hl1:((bl s).takeWhile isDig).length=k:=hk
 have e1:=hide (show mkB ((bl s).takeWhile isDig)=s.extract 0 k by
  rw [extract_mkB,List.drop_zero,Nat.sub_zero]
  congr 1
  rw [←hl1];exact (take_tw isDig (bl s)).symm)
 have e2:=hide (show mkB ((bl s).dropWhile isDig)=s.extract k s.size by
  rw [drop_mkB]
  congr 1
  rw [←hl1];exact (drop_tw isDig (bl s)).symm)
 have hk:=hide hk
 clear e0 hl1
 go_enter Tryz.func189, Tryz.ntmps189
 go_wp2_with (go_at_call 154;refine (countDigits_any _ _ (by omega)).mono ?_;rw [hk.out];rintro e w' ⟨rfl,rfl⟩)
 go_region
 all_goals
  go_wp2
  go_ret2
  exact ⟨by rw [e1.out,e2.out];rfl,(Below.refl _ _).drew⟩
def Arr (w:World) (b:Nat) (T:TypeId) (p:List Nat):Prop:=w.heap[b]?=some (.cells (p.map fun v:Nat=>Value.int .u8 (v:Int)).toArray T (0,0))
theorem Arr.cell {w:World} {b:Nat} {T:TypeId} {p:List Nat} (h:Arr w b T p) (i:Nat) (hi:i<p.length):w.cell? ⟨b,i,none⟩=some (.int .u8 (p[i]:Nat)):=by
 unfold Arr at h
 simp [World.cell?,h,List.getElem?_map,hi]
theorem Arr.frozen {w:World} {b:Nat} {T:TypeId} {p:List Nat} (h:Arr w b T p) (i:Nat):w.frozen? ⟨b,i,none⟩=false:=by
 unfold Arr at h
 simp [World.frozen?,h]
theorem Arr.lt {w:World} {b:Nat} {T:TypeId} {p:List Nat} (h:Arr w b T p):b<w.heap.size:=by
 unfold Arr at h
 by_cases hlt:b<w.heap.size
 ·exact hlt
 ·have hn:w.heap[b]?=none:=by simp;omega
  rw [hn] at h;cases h
theorem Arr.drew {w:World} {b:Nat} {T:TypeId} {p:List Nat} (h:Arr w b T p):Arr w.drew b T p:=h
theorem Arr.set {w:World} {b:Nat} {T:TypeId} {p:List Nat} (h:Arr w b T p) (i:Nat) (v:Nat):Arr (w.setCell ⟨b,i,none⟩ (.int .u8 (v:Int))) b T (p.set i v):=by
 unfold Arr at h ⊢
 simp only [World.setCell,Array.getElem?_modify,if_true,h,Option.map_some]
 simp [List.map_set]
structure Only (b:Nat) (w w':World):Prop where
 os:w'.os=w.os
 tape:w'.tape=w.tape
 output:w'.output=w.output
 size:w'.heap.size=w.heap.size
 block:∀ k,k≠b→w'.heap[k]?=w.heap[k]?
theorem Only.refl (b:Nat) (w:World):Only b w w:=⟨rfl,rfl,rfl,rfl,fun _ _=>rfl⟩
theorem Only.trans {b:Nat} {w w1 w2:World} (h:Only b w w1) (k:Only b w1 w2):Only b w w2 :=
 ⟨k.os.trans h.os,k.tape.trans h.tape,k.output.trans h.output,k.size.trans h.size,fun i hi=>(k.block i hi).trans (h.block i hi)⟩
theorem Only.set {b:Nat} {w w1:World} (h:Only b w w1) (i:Nat) (v:Value):Only b w (w1.setCell ⟨b,i,none⟩ v) :=
 h.trans ⟨rfl,rfl,rfl,by simp,fun k hk=>Below.heap_setCell _ _ _ _ hk⟩
theorem Only.below {b B:Nat} {w w1:World} (h:Only b w w1) (hb:B≤b):Below B w w1 :=
 ⟨h.os,h.tape,h.output,by rw [h.size];exact Nat.le_refl _,fun k hk=>h.block k (by omega)⟩
theorem arr_new (w:World) (T:TypeId) (n:Nat) (c:Array Value) (hc:c=((List.replicate n 0).map fun v:Nat=>Value.int .u8 (v:Int)).toArray):Arr (w.alloc (.cells c T)) w.heap.size T (List.replicate n 0):=by
 unfold Arr
 rw [hc]
 show (w.heap.push _)[w.heap.size]?=_
 simp
end Go.Proofs.YtdgehngffccjaaaGreatDoor
