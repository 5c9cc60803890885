/- Merged by program: XfPlain. -/
import Derived.Test.YthodiandebahdaaGreatDoorZq04
namespace Go.Proofs.YthodiandebahdaaGreatDoor
open Go.RowKit
set_option linter.unusedSimpArgs false
set_option linter.unusedVariables false
set_option maxHeartbeats 8000000
theorem ba_nil {s:ByteArray} (h:¬ s=⟨#[]⟩):¬ s.toList=[]:=fun e=>h (ByteArray.ext (Array.toList_inj.1 (by rw [ByteArray.toList_eq] at e;exact e)))
set_option maxRecDepth 100000 in
theorem plain_1 (n:Nat)(h:Hd)(l:List (VT n))(ns ls:Value)(w:World)(hr:RD (n+1) w (h,l) ns ls)(hk:h.kind=1) :
  Calls Tryz.prog 76 #[.agg (vals h ns ls)] w fun e w'=>TB (Bare h l) w e w':=by
 obtain ⟨al,cl,rfl,hc1,hc2⟩:=hr.len
 obtain ⟨an,cn,rfl,hn1,hn2⟩:=hr.1.len
 have ml:maxLen=9223372036854775807:=rfl
 simp only at hc1 hc2 hn1 hn2
 clear hr
 obtain ⟨k,fl,ng,dg,ex,bt,tx,nm⟩:=h
 simp only at hk hn1 hn2
 subst hk
 show Calls _ _ #[.agg #[.int .i64 1,.bool fl,.bool ng,.string dg,.int .i64 ex,.int .u64 bt,.string tx,.slice an nm.length cn,.slice al l.length cl]] _ _
 cases fl
 case true =>
  go_enter Tryz.func76, Tryz.ntmps76
  go_wp2_with fail
  go_ret
  exact TB.no (fun q=>by have e:=congrArg Hd.flag q.2.2.1;simp [strip,zr] at e <;> first|exact absurd e (by assumption)|contradiction) (by first|exact below_al (Below.refl _ _)|exact below_al (below_al (Below.refl _ _))|exact Below.refl _ _)
 case false =>
 cases ng
 case true =>
  go_enter Tryz.func76, Tryz.ntmps76
  go_wp2_with fail
  go_ret
  exact TB.no (fun q=>by have e:=congrArg Hd.neg q.2.2.1;simp [strip,zr] at e <;> first|exact absurd e (by assumption)|contradiction) (by first|exact below_al (Below.refl _ _)|exact below_al (below_al (Below.refl _ _))|exact Below.refl _ _)
 case false =>
 by_cases e3:dg=⟨#[]⟩
 case neg =>
  have q1:decide (dg=(⟨#[]⟩:ByteArray))=false:=decide_eq_false e3
  have q2:=ba_ne e3
  have q3:=ba_nil e3
  go_enter Tryz.func76, Tryz.ntmps76
  go_wp2_with fail
  go_ret
  exact TB.no (fun q=>by have e:=congrArg Hd.dig q.2.2.1;simp [strip,zr] at e <;> first|exact absurd e (by assumption)|contradiction) (by first|exact below_al (Below.refl _ _)|exact below_al (below_al (Below.refl _ _))|exact Below.refl _ _)
 case pos =>
 subst e3
 by_cases e4:ex=0
 case neg =>
  go_enter Tryz.func76, Tryz.ntmps76
  go_wp2_with fail
  go_ret
  exact TB.no (fun q=>by have e:=congrArg Hd.exp q.2.2.1;simp [strip,zr] at e <;> first|exact absurd e (by assumption)|contradiction) (by first|exact below_al (Below.refl _ _)|exact below_al (below_al (Below.refl _ _))|exact Below.refl _ _)
 case pos =>
 subst e4
 by_cases e5:bt=0
 case neg =>
  go_enter Tryz.func76, Tryz.ntmps76
  go_wp2_with fail
  go_ret
  exact TB.no (fun q=>by have e:=congrArg Hd.bits q.2.2.1;simp [strip,zr] at e <;> first|exact absurd e (by assumption)|contradiction) (by first|exact below_al (Below.refl _ _)|exact below_al (below_al (Below.refl _ _))|exact Below.refl _ _)
 case pos =>
 subst e5
 by_cases e6:tx=⟨#[]⟩
 case neg =>
  have q1:decide (tx=(⟨#[]⟩:ByteArray))=false:=decide_eq_false e6
  have q2:=ba_ne e6
  have q3:=ba_nil e6
  go_enter Tryz.func76, Tryz.ntmps76
  go_wp2_with fail
  go_ret
  exact TB.no (fun q=>by have e:=congrArg Hd.text q.2.2.1;simp [strip,zr] at e <;> first|exact absurd e (by assumption)|contradiction) (by first|exact below_al (Below.refl _ _)|exact below_al (below_al (Below.refl _ _))|exact Below.refl _ _)
 case pos =>
 subst e6
 by_cases e7:nm=[]
 case neg =>
  have q1:(0:Int)<(nm.length:Int):=by have:=List.length_pos_iff.2 e7;omega
  go_enter Tryz.func76, Tryz.ntmps76
  go_wp2_with fail
  go_ret
  exact TB.no (fun q=>by have e:=congrArg Hd.names q.2.2.1;simp [strip,zr] at e <;> first|exact absurd e (by assumption)|contradiction) (by first|exact below_al (Below.refl _ _)|exact below_al (below_al (Below.refl _ _))|exact Below.refl _ _)
 case pos =>
 subst e7
 by_cases e8:l=[]
 case neg =>
  have q1:¬ (l.length:Int)=0:=by have:=List.length_pos_iff.2 e8;omega
  have q1d:=hide (show decide ((l.length:Int)=0)=false from decide_eq_false q1)
  have hx:Hid (∀ h:Hd,h.kind=1→¬ Bare h l):=fun h hk q=>by
   rcases q.2.2.2 with e|e
   ·rw [hk] at e;exact absurd e (by decide)
   ·exact e8 e
  go_enter Tryz.func76, Tryz.ntmps76
  go_wp2_with fail
  go_ret
  first|exact TB.no (hx.out _ rfl) (by first|exact below_al (Below.refl _ _)|exact below_al (below_al (Below.refl _ _))|exact Below.refl _ _)|(show TB _ _ (.returned (.bool (decide ((l.length:Int)=0)))) _;rw [q1d.out];exact TB.no (hx.out _ rfl) (by first|exact below_al (Below.refl _ _)|exact below_al (below_al (Below.refl _ _))|exact Below.refl _ _))
 case pos =>
 subst e8
 go_enter Tryz.func76, Tryz.ntmps76
 go_wp2_with fail
 go_ret
 exact TB.yes ⟨by show (1:Int)≤1;decide,by show (1:Int)≤9;decide,by simp [strip,zr],Or.inr rfl⟩ (by first|exact below_al (Below.refl _ _)|exact below_al (below_al (Below.refl _ _))|exact Below.refl _ _)
set_option maxRecDepth 100000 in
theorem plain_2 (n:Nat)(h:Hd)(l:List (VT n))(ns ls:Value)(w:World)(hr:RD (n+1) w (h,l) ns ls)(hk:h.kind=2) :
  Calls Tryz.prog 76 #[.agg (vals h ns ls)] w fun e w'=>TB (Bare h l) w e w':=by
 obtain ⟨al,cl,rfl,hc1,hc2⟩:=hr.len
 obtain ⟨an,cn,rfl,hn1,hn2⟩:=hr.1.len
 have ml:maxLen=9223372036854775807:=rfl
 simp only at hc1 hc2 hn1 hn2
 clear hr
 obtain ⟨k,fl,ng,dg,ex,bt,tx,nm⟩:=h
 simp only at hk hn1 hn2
 subst hk
 show Calls _ _ #[.agg #[.int .i64 2,.bool fl,.bool ng,.string dg,.int .i64 ex,.int .u64 bt,.string tx,.slice an nm.length cn,.slice al l.length cl]] _ _
 cases ng
 case true =>
  go_enter Tryz.func76, Tryz.ntmps76
  go_wp2_with fail
  go_ret
  exact TB.no (fun q=>by have e:=congrArg Hd.neg q.2.2.1;simp [strip,zr] at e <;> first|exact absurd e (by assumption)|contradiction) (by first|exact below_al (Below.refl _ _)|exact below_al (below_al (Below.refl _ _))|exact Below.refl _ _)
 case false =>
 by_cases e3:dg=⟨#[]⟩
 case neg =>
  have q1:decide (dg=(⟨#[]⟩:ByteArray))=false:=decide_eq_false e3
  have q2:=ba_ne e3
  have q3:=ba_nil e3
  go_enter Tryz.func76, Tryz.ntmps76
  go_wp2_with fail
  go_ret
  exact TB.no (fun q=>by have e:=congrArg Hd.dig q.2.2.1;simp [strip,zr] at e <;> first|exact absurd e (by assumption)|contradiction) (by first|exact below_al (Below.refl _ _)|exact below_al (below_al (Below.refl _ _))|exact Below.refl _ _)
 case pos =>
 subst e3
 by_cases e4:ex=0
 case neg =>
  go_enter Tryz.func76, Tryz.ntmps76
  go_wp2_with fail
  go_ret
  exact TB.no (fun q=>by have e:=congrArg Hd.exp q.2.2.1;simp [strip,zr] at e <;> first|exact absurd e (by assumption)|contradiction) (by first|exact below_al (Below.refl _ _)|exact below_al (below_al (Below.refl _ _))|exact Below.refl _ _)
 case pos =>
 subst e4
 by_cases e5:bt=0
 case neg =>
  go_enter Tryz.func76, Tryz.ntmps76
  go_wp2_with fail
  go_ret
  exact TB.no (fun q=>by have e:=congrArg Hd.bits q.2.2.1;simp [strip,zr] at e <;> first|exact absurd e (by assumption)|contradiction) (by first|exact below_al (Below.refl _ _)|exact below_al (below_al (Below.refl _ _))|exact Below.refl _ _)
 case pos =>
 subst e5
 by_cases e6:tx=⟨#[]⟩
 case neg =>
  have q1:decide (tx=(⟨#[]⟩:ByteArray))=false:=decide_eq_false e6
  have q2:=ba_ne e6
  have q3:=ba_nil e6
  go_enter Tryz.func76, Tryz.ntmps76
  go_wp2_with fail
  go_ret
  exact TB.no (fun q=>by have e:=congrArg Hd.text q.2.2.1;simp [strip,zr] at e <;> first|exact absurd e (by assumption)|contradiction) (by first|exact below_al (Below.refl _ _)|exact below_al (below_al (Below.refl _ _))|exact Below.refl _ _)
 case pos =>
 subst e6
 by_cases e7:nm=[]
 case neg =>
  have q1:(0:Int)<(nm.length:Int):=by have:=List.length_pos_iff.2 e7;omega
  go_enter Tryz.func76, Tryz.ntmps76
  go_wp2_with fail
  go_ret
  exact TB.no (fun q=>by have e:=congrArg Hd.names q.2.2.1;simp [strip,zr] at e <;> first|exact absurd e (by assumption)|contradiction) (by first|exact below_al (Below.refl _ _)|exact below_al (below_al (Below.refl _ _))|exact Below.refl _ _)
 case pos =>
 subst e7
 by_cases e8:l=[]
 case neg =>
  have q1:¬ (l.length:Int)=0:=by have:=List.length_pos_iff.2 e8;omega
  have q1d:=hide (show decide ((l.length:Int)=0)=false from decide_eq_false q1)
  have hx:Hid (∀ h:Hd,h.kind=2→¬ Bare h l):=fun h hk q=>by
   rcases q.2.2.2 with e|e
   ·rw [hk] at e;exact absurd e (by decide)
   ·exact e8 e
  go_enter Tryz.func76, Tryz.ntmps76
  go_wp2_with fail
  go_ret
  first|exact TB.no (hx.out _ rfl) (by first|exact below_al (Below.refl _ _)|exact below_al (below_al (Below.refl _ _))|exact Below.refl _ _)|(show TB _ _ (.returned (.bool (decide ((l.length:Int)=0)))) _;rw [q1d.out];exact TB.no (hx.out _ rfl) (by first|exact below_al (Below.refl _ _)|exact below_al (below_al (Below.refl _ _))|exact Below.refl _ _))
 case pos =>
 subst e8
 go_enter Tryz.func76, Tryz.ntmps76
 go_wp2_with fail
 go_ret
 exact TB.yes ⟨by show (1:Int)≤2;decide,by show (2:Int)≤9;decide,by simp [strip,zr],Or.inr rfl⟩ (by first|exact below_al (Below.refl _ _)|exact below_al (below_al (Below.refl _ _))|exact Below.refl _ _)
set_option maxRecDepth 100000 in
theorem plain_3 (n:Nat)(h:Hd)(l:List (VT n))(ns ls:Value)(w:World)(hr:RD (n+1) w (h,l) ns ls)(hk:h.kind=3) :
  Calls Tryz.prog 76 #[.agg (vals h ns ls)] w fun e w'=>TB (Bare h l) w e w':=by
 obtain ⟨al,cl,rfl,hc1,hc2⟩:=hr.len
 obtain ⟨an,cn,rfl,hn1,hn2⟩:=hr.1.len
 have ml:maxLen=9223372036854775807:=rfl
 simp only at hc1 hc2 hn1 hn2
 clear hr
 obtain ⟨k,fl,ng,dg,ex,bt,tx,nm⟩:=h
 simp only at hk hn1 hn2
 subst hk
 show Calls _ _ #[.agg #[.int .i64 3,.bool fl,.bool ng,.string dg,.int .i64 ex,.int .u64 bt,.string tx,.slice an nm.length cn,.slice al l.length cl]] _ _
 cases fl
 case true =>
  go_enter Tryz.func76, Tryz.ntmps76
  go_wp2_with fail
  go_ret
  exact TB.no (fun q=>by have e:=congrArg Hd.flag q.2.2.1;simp [strip,zr] at e <;> first|exact absurd e (by assumption)|contradiction) (by first|exact below_al (Below.refl _ _)|exact below_al (below_al (Below.refl _ _))|exact Below.refl _ _)
 case false =>
 by_cases e5:bt=0
 case neg =>
  go_enter Tryz.func76, Tryz.ntmps76
  go_wp2_with fail
  go_ret
  exact TB.no (fun q=>by have e:=congrArg Hd.bits q.2.2.1;simp [strip,zr] at e <;> first|exact absurd e (by assumption)|contradiction) (by first|exact below_al (Below.refl _ _)|exact below_al (below_al (Below.refl _ _))|exact Below.refl _ _)
 case pos =>
 subst e5
 by_cases e6:tx=⟨#[]⟩
 case neg =>
  have q1:decide (tx=(⟨#[]⟩:ByteArray))=false:=decide_eq_false e6
  have q2:=ba_ne e6
  have q3:=ba_nil e6
  go_enter Tryz.func76, Tryz.ntmps76
  go_wp2_with fail
  go_ret
  exact TB.no (fun q=>by have e:=congrArg Hd.text q.2.2.1;simp [strip,zr] at e <;> first|exact absurd e (by assumption)|contradiction) (by first|exact below_al (Below.refl _ _)|exact below_al (below_al (Below.refl _ _))|exact Below.refl _ _)
 case pos =>
 subst e6
 by_cases e7:nm=[]
 case neg =>
  have q1:(0:Int)<(nm.length:Int):=by have:=List.length_pos_iff.2 e7;omega
  go_enter Tryz.func76, Tryz.ntmps76
  go_wp2_with fail
  go_ret
  exact TB.no (fun q=>by have e:=congrArg Hd.names q.2.2.1;simp [strip,zr] at e <;> first|exact absurd e (by assumption)|contradiction) (by first|exact below_al (Below.refl _ _)|exact below_al (below_al (Below.refl _ _))|exact Below.refl _ _)
 case pos =>
 subst e7
 by_cases e8:l=[]
 case neg =>
  have q1:¬ (l.length:Int)=0:=by have:=List.length_pos_iff.2 e8;omega
  have q1d:=hide (show decide ((l.length:Int)=0)=false from decide_eq_false q1)
  have hx:Hid (∀ h:Hd,h.kind=3→¬ Bare h l):=fun h hk q=>by
   rcases q.2.2.2 with e|e
   ·rw [hk] at e;exact absurd e (by decide)
   ·exact e8 e
  go_enter Tryz.func76, Tryz.ntmps76
  go_wp2_with fail
  go_ret
  first|exact TB.no (hx.out _ rfl) (by first|exact below_al (Below.refl _ _)|exact below_al (below_al (Below.refl _ _))|exact Below.refl _ _)|(show TB _ _ (.returned (.bool (decide ((l.length:Int)=0)))) _;rw [q1d.out];exact TB.no (hx.out _ rfl) (by first|exact below_al (Below.refl _ _)|exact below_al (below_al (Below.refl _ _))|exact Below.refl _ _))
 case pos =>
 subst e8
 go_enter Tryz.func76, Tryz.ntmps76
 go_wp2_with fail
 go_ret
 exact TB.yes ⟨by show (1:Int)≤3;decide,by show (3:Int)≤9;decide,by simp [strip,zr],Or.inr rfl⟩ (by first|exact below_al (Below.refl _ _)|exact below_al (below_al (Below.refl _ _))|exact Below.refl _ _)
set_option maxRecDepth 100000 in
theorem plain_4 (n:Nat)(h:Hd)(l:List (VT n))(ns ls:Value)(w:World)(hr:RD (n+1) w (h,l) ns ls)(hk:h.kind=4) :
  Calls Tryz.prog 76 #[.agg (vals h ns ls)] w fun e w'=>TB (Bare h l) w e w':=by
 obtain ⟨al,cl,rfl,hc1,hc2⟩:=hr.len
 obtain ⟨an,cn,rfl,hn1,hn2⟩:=hr.1.len
 have ml:maxLen=9223372036854775807:=rfl
 simp only at hc1 hc2 hn1 hn2
 clear hr
 obtain ⟨k,fl,ng,dg,ex,bt,tx,nm⟩:=h
 simp only at hk hn1 hn2
 subst hk
 show Calls _ _ #[.agg #[.int .i64 4,.bool fl,.bool ng,.string dg,.int .i64 ex,.int .u64 bt,.string tx,.slice an nm.length cn,.slice al l.length cl]] _ _
 cases fl
 case true =>
  go_enter Tryz.func76, Tryz.ntmps76
  go_wp2_with fail
  go_ret
  exact TB.no (fun q=>by have e:=congrArg Hd.flag q.2.2.1;simp [strip,zr] at e <;> first|exact absurd e (by assumption)|contradiction) (by first|exact below_al (Below.refl _ _)|exact below_al (below_al (Below.refl _ _))|exact Below.refl _ _)
 case false =>
 cases ng
 case true =>
  go_enter Tryz.func76, Tryz.ntmps76
  go_wp2_with fail
  go_ret
  exact TB.no (fun q=>by have e:=congrArg Hd.neg q.2.2.1;simp [strip,zr] at e <;> first|exact absurd e (by assumption)|contradiction) (by first|exact below_al (Below.refl _ _)|exact below_al (below_al (Below.refl _ _))|exact Below.refl _ _)
 case false =>
 by_cases e3:dg=⟨#[]⟩
 case neg =>
  have q1:decide (dg=(⟨#[]⟩:ByteArray))=false:=decide_eq_false e3
  have q2:=ba_ne e3
  have q3:=ba_nil e3
  go_enter Tryz.func76, Tryz.ntmps76
  go_wp2_with fail
  go_ret
  exact TB.no (fun q=>by have e:=congrArg Hd.dig q.2.2.1;simp [strip,zr] at e <;> first|exact absurd e (by assumption)|contradiction) (by first|exact below_al (Below.refl _ _)|exact below_al (below_al (Below.refl _ _))|exact Below.refl _ _)
 case pos =>
 subst e3
 by_cases e4:ex=0
 case neg =>
  go_enter Tryz.func76, Tryz.ntmps76
  go_wp2_with fail
  go_ret
  exact TB.no (fun q=>by have e:=congrArg Hd.exp q.2.2.1;simp [strip,zr] at e <;> first|exact absurd e (by assumption)|contradiction) (by first|exact below_al (Below.refl _ _)|exact below_al (below_al (Below.refl _ _))|exact Below.refl _ _)
 case pos =>
 subst e4
 by_cases e6:tx=⟨#[]⟩
 case neg =>
  have q1:decide (tx=(⟨#[]⟩:ByteArray))=false:=decide_eq_false e6
  have q2:=ba_ne e6
  have q3:=ba_nil e6
  go_enter Tryz.func76, Tryz.ntmps76
  go_wp2_with fail
  go_ret
  exact TB.no (fun q=>by have e:=congrArg Hd.text q.2.2.1;simp [strip,zr] at e <;> first|exact absurd e (by assumption)|contradiction) (by first|exact below_al (Below.refl _ _)|exact below_al (below_al (Below.refl _ _))|exact Below.refl _ _)
 case pos =>
 subst e6
 by_cases e7:nm=[]
 case neg =>
  have q1:(0:Int)<(nm.length:Int):=by have:=List.length_pos_iff.2 e7;omega
  go_enter Tryz.func76, Tryz.ntmps76
  go_wp2_with fail
  go_ret
  exact TB.no (fun q=>by have e:=congrArg Hd.names q.2.2.1;simp [strip,zr] at e <;> first|exact absurd e (by assumption)|contradiction) (by first|exact below_al (Below.refl _ _)|exact below_al (below_al (Below.refl _ _))|exact Below.refl _ _)
 case pos =>
 subst e7
 by_cases e8:l=[]
 case neg =>
  have q1:¬ (l.length:Int)=0:=by have:=List.length_pos_iff.2 e8;omega
  have q1d:=hide (show decide ((l.length:Int)=0)=false from decide_eq_false q1)
  have hx:Hid (∀ h:Hd,h.kind=4→¬ Bare h l):=fun h hk q=>by
   rcases q.2.2.2 with e|e
   ·rw [hk] at e;exact absurd e (by decide)
   ·exact e8 e
  go_enter Tryz.func76, Tryz.ntmps76
  go_wp2_with fail
  go_ret
  first|exact TB.no (hx.out _ rfl) (by first|exact below_al (Below.refl _ _)|exact below_al (below_al (Below.refl _ _))|exact Below.refl _ _)|(show TB _ _ (.returned (.bool (decide ((l.length:Int)=0)))) _;rw [q1d.out];exact TB.no (hx.out _ rfl) (by first|exact below_al (Below.refl _ _)|exact below_al (below_al (Below.refl _ _))|exact Below.refl _ _))
 case pos =>
 subst e8
 go_enter Tryz.func76, Tryz.ntmps76
 go_wp2_with fail
 go_ret
 exact TB.yes ⟨by show (1:Int)≤4;decide,by show (4:Int)≤9;decide,by simp [strip,zr],Or.inr rfl⟩ (by first|exact below_al (Below.refl _ _)|exact below_al (below_al (Below.refl _ _))|exact Below.refl _ _)
set_option maxRecDepth 100000 in
theorem plain_5 (n:Nat)(h:Hd)(l:List (VT n))(ns ls:Value)(w:World)(hr:RD (n+1) w (h,l) ns ls)(hk:h.kind=5) :
  Calls Tryz.prog 76 #[.agg (vals h ns ls)] w fun e w'=>TB (Bare h l) w e w':=by
 obtain ⟨al,cl,rfl,hc1,hc2⟩:=hr.len
 obtain ⟨an,cn,rfl,hn1,hn2⟩:=hr.1.len
 have ml:maxLen=9223372036854775807:=rfl
 simp only at hc1 hc2 hn1 hn2
 clear hr
 obtain ⟨k,fl,ng,dg,ex,bt,tx,nm⟩:=h
 simp only at hk hn1 hn2
 subst hk
 show Calls _ _ #[.agg #[.int .i64 5,.bool fl,.bool ng,.string dg,.int .i64 ex,.int .u64 bt,.string tx,.slice an nm.length cn,.slice al l.length cl]] _ _
 cases fl
 case true =>
  go_enter Tryz.func76, Tryz.ntmps76
  go_wp2_with fail
  go_ret
  exact TB.no (fun q=>by have e:=congrArg Hd.flag q.2.2.1;simp [strip,zr] at e <;> first|exact absurd e (by assumption)|contradiction) (by first|exact below_al (Below.refl _ _)|exact below_al (below_al (Below.refl _ _))|exact Below.refl _ _)
 case false =>
 cases ng
 case true =>
  go_enter Tryz.func76, Tryz.ntmps76
  go_wp2_with fail
  go_ret
  exact TB.no (fun q=>by have e:=congrArg Hd.neg q.2.2.1;simp [strip,zr] at e <;> first|exact absurd e (by assumption)|contradiction) (by first|exact below_al (Below.refl _ _)|exact below_al (below_al (Below.refl _ _))|exact Below.refl _ _)
 case false =>
 by_cases e3:dg=⟨#[]⟩
 case neg =>
  have q1:decide (dg=(⟨#[]⟩:ByteArray))=false:=decide_eq_false e3
  have q2:=ba_ne e3
  have q3:=ba_nil e3
  go_enter Tryz.func76, Tryz.ntmps76
  go_wp2_with fail
  go_ret
  exact TB.no (fun q=>by have e:=congrArg Hd.dig q.2.2.1;simp [strip,zr] at e <;> first|exact absurd e (by assumption)|contradiction) (by first|exact below_al (Below.refl _ _)|exact below_al (below_al (Below.refl _ _))|exact Below.refl _ _)
 case pos =>
 subst e3
 by_cases e4:ex=0
 case neg =>
  go_enter Tryz.func76, Tryz.ntmps76
  go_wp2_with fail
  go_ret
  exact TB.no (fun q=>by have e:=congrArg Hd.exp q.2.2.1;simp [strip,zr] at e <;> first|exact absurd e (by assumption)|contradiction) (by first|exact below_al (Below.refl _ _)|exact below_al (below_al (Below.refl _ _))|exact Below.refl _ _)
 case pos =>
 subst e4
 by_cases e5:bt=0
 case neg =>
  go_enter Tryz.func76, Tryz.ntmps76
  go_wp2_with fail
  go_ret
  exact TB.no (fun q=>by have e:=congrArg Hd.bits q.2.2.1;simp [strip,zr] at e <;> first|exact absurd e (by assumption)|contradiction) (by first|exact below_al (Below.refl _ _)|exact below_al (below_al (Below.refl _ _))|exact Below.refl _ _)
 case pos =>
 subst e5
 by_cases e7:nm=[]
 case neg =>
  have q1:(0:Int)<(nm.length:Int):=by have:=List.length_pos_iff.2 e7;omega
  go_enter Tryz.func76, Tryz.ntmps76
  go_wp2_with fail
  go_ret
  exact TB.no (fun q=>by have e:=congrArg Hd.names q.2.2.1;simp [strip,zr] at e <;> first|exact absurd e (by assumption)|contradiction) (by first|exact below_al (Below.refl _ _)|exact below_al (below_al (Below.refl _ _))|exact Below.refl _ _)
 case pos =>
 subst e7
 by_cases e8:l=[]
 case neg =>
  have q1:¬ (l.length:Int)=0:=by have:=List.length_pos_iff.2 e8;omega
  have q1d:=hide (show decide ((l.length:Int)=0)=false from decide_eq_false q1)
  have hx:Hid (∀ h:Hd,h.kind=5→¬ Bare h l):=fun h hk q=>by
   rcases q.2.2.2 with e|e
   ·rw [hk] at e;exact absurd e (by decide)
   ·exact e8 e
  go_enter Tryz.func76, Tryz.ntmps76
  go_wp2_with fail
  go_ret
  first|exact TB.no (hx.out _ rfl) (by first|exact below_al (Below.refl _ _)|exact below_al (below_al (Below.refl _ _))|exact Below.refl _ _)|(show TB _ _ (.returned (.bool (decide ((l.length:Int)=0)))) _;rw [q1d.out];exact TB.no (hx.out _ rfl) (by first|exact below_al (Below.refl _ _)|exact below_al (below_al (Below.refl _ _))|exact Below.refl _ _))
 case pos =>
 subst e8
 go_enter Tryz.func76, Tryz.ntmps76
 go_wp2_with fail
 go_ret
 exact TB.yes ⟨by show (1:Int)≤5;decide,by show (5:Int)≤9;decide,by simp [strip,zr],Or.inr rfl⟩ (by first|exact below_al (Below.refl _ _)|exact below_al (below_al (Below.refl _ _))|exact Below.refl _ _)
set_option maxRecDepth 100000 in
theorem plain_6 (n:Nat)(h:Hd)(l:List (VT n))(ns ls:Value)(w:World)(hr:RD (n+1) w (h,l) ns ls)(hk:h.kind=6) :
  Calls Tryz.prog 76 #[.agg (vals h ns ls)] w fun e w'=>TB (Bare h l) w e w':=by
 obtain ⟨al,cl,rfl,hc1,hc2⟩:=hr.len
 obtain ⟨an,cn,rfl,hn1,hn2⟩:=hr.1.len
 have ml:maxLen=9223372036854775807:=rfl
 simp only at hc1 hc2 hn1 hn2
 clear hr
 obtain ⟨k,fl,ng,dg,ex,bt,tx,nm⟩:=h
 simp only at hk hn1 hn2
 subst hk
 show Calls _ _ #[.agg #[.int .i64 6,.bool fl,.bool ng,.string dg,.int .i64 ex,.int .u64 bt,.string tx,.slice an nm.length cn,.slice al l.length cl]] _ _
 cases fl
 case true =>
  go_enter Tryz.func76, Tryz.ntmps76
  go_wp2_with fail
  go_ret
  exact TB.no (fun q=>by have e:=congrArg Hd.flag q.2.2.1;simp [strip,zr] at e <;> first|exact absurd e (by assumption)|contradiction) (by first|exact below_al (Below.refl _ _)|exact below_al (below_al (Below.refl _ _))|exact Below.refl _ _)
 case false =>
 cases ng
 case true =>
  go_enter Tryz.func76, Tryz.ntmps76
  go_wp2_with fail
  go_ret
  exact TB.no (fun q=>by have e:=congrArg Hd.neg q.2.2.1;simp [strip,zr] at e <;> first|exact absurd e (by assumption)|contradiction) (by first|exact below_al (Below.refl _ _)|exact below_al (below_al (Below.refl _ _))|exact Below.refl _ _)
 case false =>
 by_cases e3:dg=⟨#[]⟩
 case neg =>
  have q1:decide (dg=(⟨#[]⟩:ByteArray))=false:=decide_eq_false e3
  have q2:=ba_ne e3
  have q3:=ba_nil e3
  go_enter Tryz.func76, Tryz.ntmps76
  go_wp2_with fail
  go_ret
  exact TB.no (fun q=>by have e:=congrArg Hd.dig q.2.2.1;simp [strip,zr] at e <;> first|exact absurd e (by assumption)|contradiction) (by first|exact below_al (Below.refl _ _)|exact below_al (below_al (Below.refl _ _))|exact Below.refl _ _)
 case pos =>
 subst e3
 by_cases e4:ex=0
 case neg =>
  go_enter Tryz.func76, Tryz.ntmps76
  go_wp2_with fail
  go_ret
  exact TB.no (fun q=>by have e:=congrArg Hd.exp q.2.2.1;simp [strip,zr] at e <;> first|exact absurd e (by assumption)|contradiction) (by first|exact below_al (Below.refl _ _)|exact below_al (below_al (Below.refl _ _))|exact Below.refl _ _)
 case pos =>
 subst e4
 by_cases e5:bt=0
 case neg =>
  go_enter Tryz.func76, Tryz.ntmps76
  go_wp2_with fail
  go_ret
  exact TB.no (fun q=>by have e:=congrArg Hd.bits q.2.2.1;simp [strip,zr] at e <;> first|exact absurd e (by assumption)|contradiction) (by first|exact below_al (Below.refl _ _)|exact below_al (below_al (Below.refl _ _))|exact Below.refl _ _)
 case pos =>
 subst e5
 by_cases e7:nm=[]
 case neg =>
  have q1:(0:Int)<(nm.length:Int):=by have:=List.length_pos_iff.2 e7;omega
  go_enter Tryz.func76, Tryz.ntmps76
  go_wp2_with fail
  go_ret
  exact TB.no (fun q=>by have e:=congrArg Hd.names q.2.2.1;simp [strip,zr] at e <;> first|exact absurd e (by assumption)|contradiction) (by first|exact below_al (Below.refl _ _)|exact below_al (below_al (Below.refl _ _))|exact Below.refl _ _)
 case pos =>
 subst e7
 by_cases e8:l=[]
 case neg =>
  have q1:¬ (l.length:Int)=0:=by have:=List.length_pos_iff.2 e8;omega
  have q1d:=hide (show decide ((l.length:Int)=0)=false from decide_eq_false q1)
  have hx:Hid (∀ h:Hd,h.kind=6→¬ Bare h l):=fun h hk q=>by
   rcases q.2.2.2 with e|e
   ·rw [hk] at e;exact absurd e (by decide)
   ·exact e8 e
  go_enter Tryz.func76, Tryz.ntmps76
  go_wp2_with fail
  go_ret
  first|exact TB.no (hx.out _ rfl) (by first|exact below_al (Below.refl _ _)|exact below_al (below_al (Below.refl _ _))|exact Below.refl _ _)|(show TB _ _ (.returned (.bool (decide ((l.length:Int)=0)))) _;rw [q1d.out];exact TB.no (hx.out _ rfl) (by first|exact below_al (Below.refl _ _)|exact below_al (below_al (Below.refl _ _))|exact Below.refl _ _))
 case pos =>
 subst e8
 go_enter Tryz.func76, Tryz.ntmps76
 go_wp2_with fail
 go_ret
 exact TB.yes ⟨by show (1:Int)≤6;decide,by show (6:Int)≤9;decide,by simp [strip,zr],Or.inr rfl⟩ (by first|exact below_al (Below.refl _ _)|exact below_al (below_al (Below.refl _ _))|exact Below.refl _ _)
set_option maxRecDepth 100000 in
theorem plain_7 (n:Nat)(h:Hd)(l:List (VT n))(ns ls:Value)(w:World)(hr:RD (n+1) w (h,l) ns ls)(hk:h.kind=7) :
  Calls Tryz.prog 76 #[.agg (vals h ns ls)] w fun e w'=>TB (Bare h l) w e w':=by
 obtain ⟨al,cl,rfl,hc1,hc2⟩:=hr.len
 obtain ⟨an,cn,rfl,hn1,hn2⟩:=hr.1.len
 have ml:maxLen=9223372036854775807:=rfl
 simp only at hc1 hc2 hn1 hn2
 clear hr
 obtain ⟨k,fl,ng,dg,ex,bt,tx,nm⟩:=h
 simp only at hk hn1 hn2
 subst hk
 show Calls _ _ #[.agg #[.int .i64 7,.bool fl,.bool ng,.string dg,.int .i64 ex,.int .u64 bt,.string tx,.slice an nm.length cn,.slice al l.length cl]] _ _
 cases fl
 case true =>
  go_enter Tryz.func76, Tryz.ntmps76
  go_wp2_with fail
  go_ret
  exact TB.no (fun q=>by have e:=congrArg Hd.flag q.2.2.1;simp [strip,zr] at e <;> first|exact absurd e (by assumption)|contradiction) (by first|exact below_al (Below.refl _ _)|exact below_al (below_al (Below.refl _ _))|exact Below.refl _ _)
 case false =>
 cases ng
 case true =>
  go_enter Tryz.func76, Tryz.ntmps76
  go_wp2_with fail
  go_ret
  exact TB.no (fun q=>by have e:=congrArg Hd.neg q.2.2.1;simp [strip,zr] at e <;> first|exact absurd e (by assumption)|contradiction) (by first|exact below_al (Below.refl _ _)|exact below_al (below_al (Below.refl _ _))|exact Below.refl _ _)
 case false =>
 by_cases e3:dg=⟨#[]⟩
 case neg =>
  have q1:decide (dg=(⟨#[]⟩:ByteArray))=false:=decide_eq_false e3
  have q2:=ba_ne e3
  have q3:=ba_nil e3
  go_enter Tryz.func76, Tryz.ntmps76
  go_wp2_with fail
  go_ret
  exact TB.no (fun q=>by have e:=congrArg Hd.dig q.2.2.1;simp [strip,zr] at e <;> first|exact absurd e (by assumption)|contradiction) (by first|exact below_al (Below.refl _ _)|exact below_al (below_al (Below.refl _ _))|exact Below.refl _ _)
 case pos =>
 subst e3
 by_cases e4:ex=0
 case neg =>
  go_enter Tryz.func76, Tryz.ntmps76
  go_wp2_with fail
  go_ret
  exact TB.no (fun q=>by have e:=congrArg Hd.exp q.2.2.1;simp [strip,zr] at e <;> first|exact absurd e (by assumption)|contradiction) (by first|exact below_al (Below.refl _ _)|exact below_al (below_al (Below.refl _ _))|exact Below.refl _ _)
 case pos =>
 subst e4
 by_cases e5:bt=0
 case neg =>
  go_enter Tryz.func76, Tryz.ntmps76
  go_wp2_with fail
  go_ret
  exact TB.no (fun q=>by have e:=congrArg Hd.bits q.2.2.1;simp [strip,zr] at e <;> first|exact absurd e (by assumption)|contradiction) (by first|exact below_al (Below.refl _ _)|exact below_al (below_al (Below.refl _ _))|exact Below.refl _ _)
 case pos =>
 subst e5
 by_cases e6:tx=⟨#[]⟩
 case neg =>
  have q1:decide (tx=(⟨#[]⟩:ByteArray))=false:=decide_eq_false e6
  have q2:=ba_ne e6
  have q3:=ba_nil e6
  go_enter Tryz.func76, Tryz.ntmps76
  go_wp2_with fail
  go_ret
  exact TB.no (fun q=>by have e:=congrArg Hd.text q.2.2.1;simp [strip,zr] at e <;> first|exact absurd e (by assumption)|contradiction) (by first|exact below_al (Below.refl _ _)|exact below_al (below_al (Below.refl _ _))|exact Below.refl _ _)
 case pos =>
 subst e6
 by_cases e7:nm=[]
 case neg =>
  have q1:(0:Int)<(nm.length:Int):=by have:=List.length_pos_iff.2 e7;omega
  go_enter Tryz.func76, Tryz.ntmps76
  go_wp2_with fail
  go_ret
  exact TB.no (fun q=>by have e:=congrArg Hd.names q.2.2.1;simp [strip,zr] at e <;> first|exact absurd e (by assumption)|contradiction) (by first|exact below_al (Below.refl _ _)|exact below_al (below_al (Below.refl _ _))|exact Below.refl _ _)
 case pos =>
 subst e7
 go_enter Tryz.func76, Tryz.ntmps76
 go_wp2_with fail
 go_ret
 exact TB.yes ⟨by show (1:Int)≤7;decide,by show (7:Int)≤9;decide,by simp [strip,zr],Or.inl (by show (7:Int)≤7;decide)⟩ (by first|exact below_al (Below.refl _ _)|exact below_al (below_al (Below.refl _ _))|exact Below.refl _ _)
set_option maxRecDepth 100000 in
theorem plain_8 (n:Nat)(h:Hd)(l:List (VT n))(ns ls:Value)(w:World)(hr:RD (n+1) w (h,l) ns ls)(hk:h.kind=8) :
  Calls Tryz.prog 76 #[.agg (vals h ns ls)] w fun e w'=>TB (Bare h l) w e w':=by
 obtain ⟨al,cl,rfl,hc1,hc2⟩:=hr.len
 obtain ⟨an,cn,rfl,hn1,hn2⟩:=hr.1.len
 have ml:maxLen=9223372036854775807:=rfl
 simp only at hc1 hc2 hn1 hn2
 clear hr
 obtain ⟨k,fl,ng,dg,ex,bt,tx,nm⟩:=h
 simp only at hk hn1 hn2
 subst hk
 show Calls _ _ #[.agg #[.int .i64 8,.bool fl,.bool ng,.string dg,.int .i64 ex,.int .u64 bt,.string tx,.slice an nm.length cn,.slice al l.length cl]] _ _
 cases fl
 case true =>
  go_enter Tryz.func76, Tryz.ntmps76
  go_wp2_with fail
  go_ret
  exact TB.no (fun q=>by have e:=congrArg Hd.flag q.2.2.1;simp [strip,zr] at e <;> first|exact absurd e (by assumption)|contradiction) (by first|exact below_al (Below.refl _ _)|exact below_al (below_al (Below.refl _ _))|exact Below.refl _ _)
 case false =>
 cases ng
 case true =>
  go_enter Tryz.func76, Tryz.ntmps76
  go_wp2_with fail
  go_ret
  exact TB.no (fun q=>by have e:=congrArg Hd.neg q.2.2.1;simp [strip,zr] at e <;> first|exact absurd e (by assumption)|contradiction) (by first|exact below_al (Below.refl _ _)|exact below_al (below_al (Below.refl _ _))|exact Below.refl _ _)
 case false =>
 by_cases e3:dg=⟨#[]⟩
 case neg =>
  have q1:decide (dg=(⟨#[]⟩:ByteArray))=false:=decide_eq_false e3
  have q2:=ba_ne e3
  have q3:=ba_nil e3
  go_enter Tryz.func76, Tryz.ntmps76
  go_wp2_with fail
  go_ret
  exact TB.no (fun q=>by have e:=congrArg Hd.dig q.2.2.1;simp [strip,zr] at e <;> first|exact absurd e (by assumption)|contradiction) (by first|exact below_al (Below.refl _ _)|exact below_al (below_al (Below.refl _ _))|exact Below.refl _ _)
 case pos =>
 subst e3
 by_cases e4:ex=0
 case neg =>
  go_enter Tryz.func76, Tryz.ntmps76
  go_wp2_with fail
  go_ret
  exact TB.no (fun q=>by have e:=congrArg Hd.exp q.2.2.1;simp [strip,zr] at e <;> first|exact absurd e (by assumption)|contradiction) (by first|exact below_al (Below.refl _ _)|exact below_al (below_al (Below.refl _ _))|exact Below.refl _ _)
 case pos =>
 subst e4
 by_cases e5:bt=0
 case neg =>
  go_enter Tryz.func76, Tryz.ntmps76
  go_wp2_with fail
  go_ret
  exact TB.no (fun q=>by have e:=congrArg Hd.bits q.2.2.1;simp [strip,zr] at e <;> first|exact absurd e (by assumption)|contradiction) (by first|exact below_al (Below.refl _ _)|exact below_al (below_al (Below.refl _ _))|exact Below.refl _ _)
 case pos =>
 subst e5
 by_cases e6:tx=⟨#[]⟩
 case neg =>
  have q1:decide (tx=(⟨#[]⟩:ByteArray))=false:=decide_eq_false e6
  have q2:=ba_ne e6
  have q3:=ba_nil e6
  go_enter Tryz.func76, Tryz.ntmps76
  go_wp2_with fail
  go_ret
  exact TB.no (fun q=>by have e:=congrArg Hd.text q.2.2.1;simp [strip,zr] at e <;> first|exact absurd e (by assumption)|contradiction) (by first|exact below_al (Below.refl _ _)|exact below_al (below_al (Below.refl _ _))|exact Below.refl _ _)
 case pos =>
 subst e6
 go_enter Tryz.func76, Tryz.ntmps76
 go_wp2_with fail
 go_ret
 exact TB.yes ⟨by show (1:Int)≤8;decide,by show (8:Int)≤9;decide,by simp [strip,zr],Or.inl (by show (7:Int)≤8;decide)⟩ (by first|exact below_al (Below.refl _ _)|exact below_al (below_al (Below.refl _ _))|exact Below.refl _ _)
set_option maxRecDepth 100000 in
theorem plain_9 (n:Nat)(h:Hd)(l:List (VT n))(ns ls:Value)(w:World)(hr:RD (n+1) w (h,l) ns ls)(hk:h.kind=9) :
  Calls Tryz.prog 76 #[.agg (vals h ns ls)] w fun e w'=>TB (Bare h l) w e w':=by
 obtain ⟨al,cl,rfl,hc1,hc2⟩:=hr.len
 obtain ⟨an,cn,rfl,hn1,hn2⟩:=hr.1.len
 have ml:maxLen=9223372036854775807:=rfl
 simp only at hc1 hc2 hn1 hn2
 clear hr
 obtain ⟨k,fl,ng,dg,ex,bt,tx,nm⟩:=h
 simp only at hk hn1 hn2
 subst hk
 show Calls _ _ #[.agg #[.int .i64 9,.bool fl,.bool ng,.string dg,.int .i64 ex,.int .u64 bt,.string tx,.slice an nm.length cn,.slice al l.length cl]] _ _
 cases fl
 case true =>
  go_enter Tryz.func76, Tryz.ntmps76
  go_wp2_with fail
  go_ret
  exact TB.no (fun q=>by have e:=congrArg Hd.flag q.2.2.1;simp [strip,zr] at e <;> first|exact absurd e (by assumption)|contradiction) (by first|exact below_al (Below.refl _ _)|exact below_al (below_al (Below.refl _ _))|exact Below.refl _ _)
 case false =>
 cases ng
 case true =>
  go_enter Tryz.func76, Tryz.ntmps76
  go_wp2_with fail
  go_ret
  exact TB.no (fun q=>by have e:=congrArg Hd.neg q.2.2.1;simp [strip,zr] at e <;> first|exact absurd e (by assumption)|contradiction) (by first|exact below_al (Below.refl _ _)|exact below_al (below_al (Below.refl _ _))|exact Below.refl _ _)
 case false =>
 by_cases e3:dg=⟨#[]⟩
 case neg =>
  have q1:decide (dg=(⟨#[]⟩:ByteArray))=false:=decide_eq_false e3
  have q2:=ba_ne e3
  have q3:=ba_nil e3
  go_enter Tryz.func76, Tryz.ntmps76
  go_wp2_with fail
  go_ret
  exact TB.no (fun q=>by have e:=congrArg Hd.dig q.2.2.1;simp [strip,zr] at e <;> first|exact absurd e (by assumption)|contradiction) (by first|exact below_al (Below.refl _ _)|exact below_al (below_al (Below.refl _ _))|exact Below.refl _ _)
 case pos =>
 subst e3
 by_cases e4:ex=0
 case neg =>
  go_enter Tryz.func76, Tryz.ntmps76
  go_wp2_with fail
  go_ret
  exact TB.no (fun q=>by have e:=congrArg Hd.exp q.2.2.1;simp [strip,zr] at e <;> first|exact absurd e (by assumption)|contradiction) (by first|exact below_al (Below.refl _ _)|exact below_al (below_al (Below.refl _ _))|exact Below.refl _ _)
 case pos =>
 subst e4
 by_cases e5:bt=0
 case neg =>
  go_enter Tryz.func76, Tryz.ntmps76
  go_wp2_with fail
  go_ret
  exact TB.no (fun q=>by have e:=congrArg Hd.bits q.2.2.1;simp [strip,zr] at e <;> first|exact absurd e (by assumption)|contradiction) (by first|exact below_al (Below.refl _ _)|exact below_al (below_al (Below.refl _ _))|exact Below.refl _ _)
 case pos =>
 subst e5
 by_cases e7:nm=[]
 case neg =>
  have q1:(0:Int)<(nm.length:Int):=by have:=List.length_pos_iff.2 e7;omega
  go_enter Tryz.func76, Tryz.ntmps76
  go_wp2_with fail
  go_ret
  exact TB.no (fun q=>by have e:=congrArg Hd.names q.2.2.1;simp [strip,zr] at e <;> first|exact absurd e (by assumption)|contradiction) (by first|exact below_al (Below.refl _ _)|exact below_al (below_al (Below.refl _ _))|exact Below.refl _ _)
 case pos =>
 subst e7
 go_enter Tryz.func76, Tryz.ntmps76
 go_wp2_with fail
 go_ret
 exact TB.yes ⟨by show (1:Int)≤9;decide,by show (9:Int)≤9;decide,by simp [strip,zr],Or.inl (by show (7:Int)≤9;decide)⟩ (by first|exact below_al (Below.refl _ _)|exact below_al (below_al (Below.refl _ _))|exact Below.refl _ _)
set_option maxRecDepth 100000 in
theorem rplain_any (n:Nat)(h:Hd)(l:List (VT n))(ns ls:Value)(w:World)(hr:RD (n+1) w (h,l) ns ls) :
  Calls Tryz.prog 76 #[.agg (vals h ns ls)] w fun e w'=>TB (Bare h l) w e w':=by
 by_cases k1:h.kind=1
 ·exact plain_1 n h l ns ls w hr k1
 by_cases k2:h.kind=2
 ·exact plain_2 n h l ns ls w hr k2
 by_cases k3:h.kind=3
 ·exact plain_3 n h l ns ls w hr k3
 by_cases k4:h.kind=4
 ·exact plain_4 n h l ns ls w hr k4
 by_cases k5:h.kind=5
 ·exact plain_5 n h l ns ls w hr k5
 by_cases k6:h.kind=6
 ·exact plain_6 n h l ns ls w hr k6
 by_cases k7:h.kind=7
 ·exact plain_7 n h l ns ls w hr k7
 by_cases k8:h.kind=8
 ·exact plain_8 n h l ns ls w hr k8
 by_cases k9:h.kind=9
 ·exact plain_9 n h l ns ls w hr k9
 have hx:¬ Bare h l:=by
  rintro ⟨q1,q2,_⟩
  omega
 have hx':=hide hx
 obtain ⟨a1,m1,d1,a2,m2,d2,rfl,rfl⟩:=hr.shape
 clear hx hr
 show Calls _ _ #[.agg #[.int .i64 h.kind,.bool h.flag,.bool h.neg,.string h.dig,.int .i64 h.exp,.int .u64 h.bits,.string h.text,.slice a1 m1 d1,.slice a2 m2 d2]] _ _
 by_cases b1:h.kind<1
 ·go_enter Tryz.func76, Tryz.ntmps76
  go_wp2_with fail
  go_ret
  exact TB.no hx'.out (by first|exact below_al (Below.refl _ _)|exact below_al (below_al (Below.refl _ _))|exact Below.refl _ _)
 ·have b2:9<h.kind:=by omega
  go_enter Tryz.func76, Tryz.ntmps76
  go_wp2_with fail
  go_ret
  exact TB.no hx'.out (by first|exact below_al (Below.refl _ _)|exact below_al (below_al (Below.refl _ _))|exact Below.refl _ _)
end Go.Proofs.YthodiandebahdaaGreatDoor
