/- Merged by program: VxBare, VyBare, VzEvery, SmBig. -/
import Derived.Test.YtcnfchblfcfimaaGreatDoorZr30
import Derived.Test.YtcnfchblfcfimaaGreatDoorZr10
import Derived.Test.YtcnfchblfcfimaaGreatDoorZr29
import Derived.Test.YtcnfchblfcfimaaGreatDoorZr06
set_option linter.unusedSimpArgs false
set_option linter.unusedVariables false
namespace Go.Proofs.YtcnfchblfcfimaaGreatDoor
namespace Lx
open Go.RowKit
def VZ:(n:Nat)→VT n→Prop
 | 0,_=>False
 | _ + 1,v=>v=(zr 0,[])
theorem tl0 {a:ByteArray} (h:¬ a=⟨#[]⟩):¬ a.toList=[]:=by
 intro e
 apply h
 have:a.data.toList=[]:=by rw [←ByteArray.toList_eq];exact e
 exact ByteArray.ext (Array.toList_inj.1 (by simpa using this))
set_option maxHeartbeats 2000000 in
set_option maxRecDepth 100000 in
theorem bare_1 (n m:Nat) (nm:ByteArray) (nms:List ByteArray) (vh:Hd) (vl:List (VT m)) (l:List (ET n)) (q:Sl) (w:World) (hr:RE (n + 1) w (⟨1,nm,nms,m + 1,(vh,vl)⟩,l) q) :
  Calls Tryz.prog 37 #[.agg (ecl ⟨1,nm,nms,m + 1,(vh,vl)⟩ q)] w fun e w'=>TB (nm=⟨#[]⟩∧nms=[]∧l=[]∧VZ (m + 1) (vh,vl)) w e w':=by
 obtain ⟨al,cl,hle,hc1,hc2⟩:=hr.tl.len
 obtain ⟨an,cn,hne,hd1,hd2⟩:=hr.1.len
 obtain ⟨x1,y1,z1,x2,y2,z2,x3,y3,z3,x4,y4,z4,hqs⟩:=hr.shape
 subst hqs
 obtain ⟨rfl,rfl,rfl⟩:=Value.slice.inj hle
 obtain ⟨rfl,rfl,rfl⟩:=Value.slice.inj hne
 clear hle hne hc1 hc2 hd1 hd2
 have hE:=hide (fun o=>equal_any (m + 1) (vh,vl) (zr 0,[]) (.slice x3 y3 z3) (.slice x4 y4 z4) (.slice none 0 0) (.slice none 0 0) (w.alloc o) (hr.2.1.below (below_al (o:=o) (Below.refl _ _))) (rd_zero m _ 0))
 show Calls _ _ #[.agg #[.int .i64 1,.string nm,.slice x1 nms.length z1,.slice x2 l.length z2,.int .i64 vh.kind,.bool vh.flag,.bool vh.neg,.string vh.dig,.int .i64 vh.exp,.int .u64 vh.bits,.string vh.text,.slice x3 y3 z3,.slice x4 y4 z4]] _ _
 clear hr
 by_cases h1:nm=⟨#[]⟩
 ·have E1:=hide h1
  rw [h1]
  clear h1
  by_cases h2:nms=[]
  ·have E2:=hide h2
   have zE2:nms.length=0:=by rw [h2];rfl
   rw [zE2]
   clear zE2 h2
   by_cases h3:l=[]
   ·have E3:=hide h3
    have zE3:l.length=0:=by rw [h3];rfl
    rw [zE3]
    clear zE3 h3
    go_enter Tryz.func37, Tryz.ntmps37
    go_wp2_with (go_at_call 82;refine (hE.out _).mono ?_;rintro e w1 ⟨b,rfl,hT,hb1⟩)
    go_ret
    exact ⟨b,rfl,(show Hid _ from ⟨fun q=>⟨(by first|trivial|rfl|exact E1.out),E2.out,E3.out,hT.1 q⟩,fun q=>hT.2 q.2.2.2⟩),below_then (below_al (Below.refl _ _)) hb1⟩
   ·have HE3:=hide h3
    go_enter Tryz.func37, Tryz.ntmps37
    go_wp2_with fail
    go_ret
    exact TB.no (fun q=>HE3.out q.2.2.1) (below_al (Below.refl _ _))
  ·have HE2:=hide h2
   go_enter Tryz.func37, Tryz.ntmps37
   go_wp2_with fail
   go_ret
   exact TB.no (fun q=>HE2.out q.2.1) (below_al (Below.refl _ _))
 ·have b1:¬ nm.toList=[]:=tl0 h1
  have H1:=hide h1
  clear h1
  go_enter Tryz.func37, Tryz.ntmps37
  go_wp2_with fail
  go_ret
  exact TB.no (fun q=>H1.out q.1) (below_al (Below.refl _ _))
set_option maxHeartbeats 2000000 in
set_option maxRecDepth 100000 in
theorem bare_8 (n m:Nat) (nm:ByteArray) (nms:List ByteArray) (vh:Hd) (vl:List (VT m)) (l:List (ET n)) (q:Sl) (w:World) (hr:RE (n + 1) w (⟨8,nm,nms,m + 1,(vh,vl)⟩,l) q) :
  Calls Tryz.prog 37 #[.agg (ecl ⟨8,nm,nms,m + 1,(vh,vl)⟩ q)] w fun e w'=>TB (nm=⟨#[]⟩∧nms=[]∧l=[]∧VZ (m + 1) (vh,vl)) w e w':=by
 obtain ⟨al,cl,hle,hc1,hc2⟩:=hr.tl.len
 obtain ⟨an,cn,hne,hd1,hd2⟩:=hr.1.len
 obtain ⟨x1,y1,z1,x2,y2,z2,x3,y3,z3,x4,y4,z4,hqs⟩:=hr.shape
 subst hqs
 obtain ⟨rfl,rfl,rfl⟩:=Value.slice.inj hle
 obtain ⟨rfl,rfl,rfl⟩:=Value.slice.inj hne
 clear hle hne hc1 hc2 hd1 hd2
 have hE:=hide (fun o=>equal_any (m + 1) (vh,vl) (zr 0,[]) (.slice x3 y3 z3) (.slice x4 y4 z4) (.slice none 0 0) (.slice none 0 0) (w.alloc o) (hr.2.1.below (below_al (o:=o) (Below.refl _ _))) (rd_zero m _ 0))
 show Calls _ _ #[.agg #[.int .i64 8,.string nm,.slice x1 nms.length z1,.slice x2 l.length z2,.int .i64 vh.kind,.bool vh.flag,.bool vh.neg,.string vh.dig,.int .i64 vh.exp,.int .u64 vh.bits,.string vh.text,.slice x3 y3 z3,.slice x4 y4 z4]] _ _
 clear hr
 by_cases h1:nm=⟨#[]⟩
 ·have E1:=hide h1
  rw [h1]
  clear h1
  by_cases h2:nms=[]
  ·have E2:=hide h2
   have zE2:nms.length=0:=by rw [h2];rfl
   rw [zE2]
   clear zE2 h2
   by_cases h3:l=[]
   ·have E3:=hide h3
    have zE3:l.length=0:=by rw [h3];rfl
    rw [zE3]
    clear zE3 h3
    go_enter Tryz.func37, Tryz.ntmps37
    go_wp2_with (go_at_call 82;refine (hE.out _).mono ?_;rintro e w1 ⟨b,rfl,hT,hb1⟩)
    go_ret
    exact ⟨b,rfl,(show Hid _ from ⟨fun q=>⟨(by first|trivial|rfl|exact E1.out),E2.out,E3.out,hT.1 q⟩,fun q=>hT.2 q.2.2.2⟩),below_then (below_al (Below.refl _ _)) hb1⟩
   ·have HE3:=hide h3
    go_enter Tryz.func37, Tryz.ntmps37
    go_wp2_with fail
    go_ret
    exact TB.no (fun q=>HE3.out q.2.2.1) (below_al (Below.refl _ _))
  ·have HE2:=hide h2
   go_enter Tryz.func37, Tryz.ntmps37
   go_wp2_with fail
   go_ret
   exact TB.no (fun q=>HE2.out q.2.1) (below_al (Below.refl _ _))
 ·have b1:¬ nm.toList=[]:=tl0 h1
  have H1:=hide h1
  clear h1
  go_enter Tryz.func37, Tryz.ntmps37
  go_wp2_with fail
  go_ret
  exact TB.no (fun q=>H1.out q.1) (below_al (Below.refl _ _))
set_option maxHeartbeats 2000000 in
set_option maxRecDepth 100000 in
theorem bare_9 (n m:Nat) (nm:ByteArray) (nms:List ByteArray) (vh:Hd) (vl:List (VT m)) (l:List (ET n)) (q:Sl) (w:World) (hr:RE (n + 1) w (⟨9,nm,nms,m + 1,(vh,vl)⟩,l) q) :
  Calls Tryz.prog 37 #[.agg (ecl ⟨9,nm,nms,m + 1,(vh,vl)⟩ q)] w fun e w'=>TB (nm=⟨#[]⟩∧nms=[]∧l=[]∧VZ (m + 1) (vh,vl)) w e w':=by
 obtain ⟨al,cl,hle,hc1,hc2⟩:=hr.tl.len
 obtain ⟨an,cn,hne,hd1,hd2⟩:=hr.1.len
 obtain ⟨x1,y1,z1,x2,y2,z2,x3,y3,z3,x4,y4,z4,hqs⟩:=hr.shape
 subst hqs
 obtain ⟨rfl,rfl,rfl⟩:=Value.slice.inj hle
 obtain ⟨rfl,rfl,rfl⟩:=Value.slice.inj hne
 clear hle hne hc1 hc2 hd1 hd2
 have hE:=hide (fun o=>equal_any (m + 1) (vh,vl) (zr 0,[]) (.slice x3 y3 z3) (.slice x4 y4 z4) (.slice none 0 0) (.slice none 0 0) (w.alloc o) (hr.2.1.below (below_al (o:=o) (Below.refl _ _))) (rd_zero m _ 0))
 show Calls _ _ #[.agg #[.int .i64 9,.string nm,.slice x1 nms.length z1,.slice x2 l.length z2,.int .i64 vh.kind,.bool vh.flag,.bool vh.neg,.string vh.dig,.int .i64 vh.exp,.int .u64 vh.bits,.string vh.text,.slice x3 y3 z3,.slice x4 y4 z4]] _ _
 clear hr
 by_cases h1:nm=⟨#[]⟩
 ·have E1:=hide h1
  rw [h1]
  clear h1
  by_cases h2:nms=[]
  ·have E2:=hide h2
   have zE2:nms.length=0:=by rw [h2];rfl
   rw [zE2]
   clear zE2 h2
   by_cases h3:l=[]
   ·have E3:=hide h3
    have zE3:l.length=0:=by rw [h3];rfl
    rw [zE3]
    clear zE3 h3
    go_enter Tryz.func37, Tryz.ntmps37
    go_wp2_with (go_at_call 82;refine (hE.out _).mono ?_;rintro e w1 ⟨b,rfl,hT,hb1⟩)
    go_ret
    exact ⟨b,rfl,(show Hid _ from ⟨fun q=>⟨(by first|trivial|rfl|exact E1.out),E2.out,E3.out,hT.1 q⟩,fun q=>hT.2 q.2.2.2⟩),below_then (below_al (Below.refl _ _)) hb1⟩
   ·have HE3:=hide h3
    go_enter Tryz.func37, Tryz.ntmps37
    go_wp2_with fail
    go_ret
    exact TB.no (fun q=>HE3.out q.2.2.1) (below_al (Below.refl _ _))
  ·have HE2:=hide h2
   go_enter Tryz.func37, Tryz.ntmps37
   go_wp2_with fail
   go_ret
   exact TB.no (fun q=>HE2.out q.2.1) (below_al (Below.refl _ _))
 ·have b1:¬ nm.toList=[]:=tl0 h1
  have H1:=hide h1
  clear h1
  go_enter Tryz.func37, Tryz.ntmps37
  go_wp2_with fail
  go_ret
  exact TB.no (fun q=>H1.out q.1) (below_al (Below.refl _ _))
set_option maxHeartbeats 2000000 in
set_option maxRecDepth 100000 in
theorem bare_10 (n m:Nat) (nm:ByteArray) (nms:List ByteArray) (vh:Hd) (vl:List (VT m)) (l:List (ET n)) (q:Sl) (w:World) (hr:RE (n + 1) w (⟨10,nm,nms,m + 1,(vh,vl)⟩,l) q) :
  Calls Tryz.prog 37 #[.agg (ecl ⟨10,nm,nms,m + 1,(vh,vl)⟩ q)] w fun e w'=>TB (nm=⟨#[]⟩∧nms=[]∧l=[]∧VZ (m + 1) (vh,vl)) w e w':=by
 obtain ⟨al,cl,hle,hc1,hc2⟩:=hr.tl.len
 obtain ⟨an,cn,hne,hd1,hd2⟩:=hr.1.len
 obtain ⟨x1,y1,z1,x2,y2,z2,x3,y3,z3,x4,y4,z4,hqs⟩:=hr.shape
 subst hqs
 obtain ⟨rfl,rfl,rfl⟩:=Value.slice.inj hle
 obtain ⟨rfl,rfl,rfl⟩:=Value.slice.inj hne
 clear hle hne hc1 hc2 hd1 hd2
 have hE:=hide (fun o=>equal_any (m + 1) (vh,vl) (zr 0,[]) (.slice x3 y3 z3) (.slice x4 y4 z4) (.slice none 0 0) (.slice none 0 0) (w.alloc o) (hr.2.1.below (below_al (o:=o) (Below.refl _ _))) (rd_zero m _ 0))
 show Calls _ _ #[.agg #[.int .i64 10,.string nm,.slice x1 nms.length z1,.slice x2 l.length z2,.int .i64 vh.kind,.bool vh.flag,.bool vh.neg,.string vh.dig,.int .i64 vh.exp,.int .u64 vh.bits,.string vh.text,.slice x3 y3 z3,.slice x4 y4 z4]] _ _
 clear hr
 by_cases h1:nm=⟨#[]⟩
 ·have E1:=hide h1
  rw [h1]
  clear h1
  by_cases h2:nms=[]
  ·have E2:=hide h2
   have zE2:nms.length=0:=by rw [h2];rfl
   rw [zE2]
   clear zE2 h2
   by_cases h3:l=[]
   ·have E3:=hide h3
    have zE3:l.length=0:=by rw [h3];rfl
    rw [zE3]
    clear zE3 h3
    go_enter Tryz.func37, Tryz.ntmps37
    go_wp2_with (go_at_call 82;refine (hE.out _).mono ?_;rintro e w1 ⟨b,rfl,hT,hb1⟩)
    go_ret
    exact ⟨b,rfl,(show Hid _ from ⟨fun q=>⟨(by first|trivial|rfl|exact E1.out),E2.out,E3.out,hT.1 q⟩,fun q=>hT.2 q.2.2.2⟩),below_then (below_al (Below.refl _ _)) hb1⟩
   ·have HE3:=hide h3
    go_enter Tryz.func37, Tryz.ntmps37
    go_wp2_with fail
    go_ret
    exact TB.no (fun q=>HE3.out q.2.2.1) (below_al (Below.refl _ _))
  ·have HE2:=hide h2
   go_enter Tryz.func37, Tryz.ntmps37
   go_wp2_with fail
   go_ret
   exact TB.no (fun q=>HE2.out q.2.1) (below_al (Below.refl _ _))
 ·have b1:¬ nm.toList=[]:=tl0 h1
  have H1:=hide h1
  clear h1
  go_enter Tryz.func37, Tryz.ntmps37
  go_wp2_with fail
  go_ret
  exact TB.no (fun q=>H1.out q.1) (below_al (Below.refl _ _))
set_option maxHeartbeats 2000000 in
set_option maxRecDepth 100000 in
theorem bare_11 (n m:Nat) (nm:ByteArray) (nms:List ByteArray) (vh:Hd) (vl:List (VT m)) (l:List (ET n)) (q:Sl) (w:World) (hr:RE (n + 1) w (⟨11,nm,nms,m + 1,(vh,vl)⟩,l) q) :
  Calls Tryz.prog 37 #[.agg (ecl ⟨11,nm,nms,m + 1,(vh,vl)⟩ q)] w fun e w'=>TB (nm=⟨#[]⟩∧nms=[]∧l=[]∧VZ (m + 1) (vh,vl)) w e w':=by
 obtain ⟨al,cl,hle,hc1,hc2⟩:=hr.tl.len
 obtain ⟨an,cn,hne,hd1,hd2⟩:=hr.1.len
 obtain ⟨x1,y1,z1,x2,y2,z2,x3,y3,z3,x4,y4,z4,hqs⟩:=hr.shape
 subst hqs
 obtain ⟨rfl,rfl,rfl⟩:=Value.slice.inj hle
 obtain ⟨rfl,rfl,rfl⟩:=Value.slice.inj hne
 clear hle hne hc1 hc2 hd1 hd2
 have hE:=hide (fun o=>equal_any (m + 1) (vh,vl) (zr 0,[]) (.slice x3 y3 z3) (.slice x4 y4 z4) (.slice none 0 0) (.slice none 0 0) (w.alloc o) (hr.2.1.below (below_al (o:=o) (Below.refl _ _))) (rd_zero m _ 0))
 show Calls _ _ #[.agg #[.int .i64 11,.string nm,.slice x1 nms.length z1,.slice x2 l.length z2,.int .i64 vh.kind,.bool vh.flag,.bool vh.neg,.string vh.dig,.int .i64 vh.exp,.int .u64 vh.bits,.string vh.text,.slice x3 y3 z3,.slice x4 y4 z4]] _ _
 clear hr
 by_cases h1:nm=⟨#[]⟩
 ·have E1:=hide h1
  rw [h1]
  clear h1
  by_cases h2:nms=[]
  ·have E2:=hide h2
   have zE2:nms.length=0:=by rw [h2];rfl
   rw [zE2]
   clear zE2 h2
   by_cases h3:l=[]
   ·have E3:=hide h3
    have zE3:l.length=0:=by rw [h3];rfl
    rw [zE3]
    clear zE3 h3
    go_enter Tryz.func37, Tryz.ntmps37
    go_wp2_with (go_at_call 82;refine (hE.out _).mono ?_;rintro e w1 ⟨b,rfl,hT,hb1⟩)
    go_ret
    exact ⟨b,rfl,(show Hid _ from ⟨fun q=>⟨(by first|trivial|rfl|exact E1.out),E2.out,E3.out,hT.1 q⟩,fun q=>hT.2 q.2.2.2⟩),below_then (below_al (Below.refl _ _)) hb1⟩
   ·have HE3:=hide h3
    go_enter Tryz.func37, Tryz.ntmps37
    go_wp2_with fail
    go_ret
    exact TB.no (fun q=>HE3.out q.2.2.1) (below_al (Below.refl _ _))
  ·have HE2:=hide h2
   go_enter Tryz.func37, Tryz.ntmps37
   go_wp2_with fail
   go_ret
   exact TB.no (fun q=>HE2.out q.2.1) (below_al (Below.refl _ _))
 ·have b1:¬ nm.toList=[]:=tl0 h1
  have H1:=hide h1
  clear h1
  go_enter Tryz.func37, Tryz.ntmps37
  go_wp2_with fail
  go_ret
  exact TB.no (fun q=>H1.out q.1) (below_al (Below.refl _ _))
set_option maxHeartbeats 2000000 in
set_option maxRecDepth 100000 in
theorem bare_2 (n m:Nat) (nm:ByteArray) (nms:List ByteArray) (vh:Hd) (vl:List (VT m)) (l:List (ET n)) (q:Sl) (w:World) (hr:RE (n + 1) w (⟨2,nm,nms,m + 1,(vh,vl)⟩,l) q) :
  Calls Tryz.prog 37 #[.agg (ecl ⟨2,nm,nms,m + 1,(vh,vl)⟩ q)] w fun e w'=>TB (nms=[]∧l=[]∧VZ (m + 1) (vh,vl)) w e w':=by
 obtain ⟨al,cl,hle,hc1,hc2⟩:=hr.tl.len
 obtain ⟨an,cn,hne,hd1,hd2⟩:=hr.1.len
 obtain ⟨x1,y1,z1,x2,y2,z2,x3,y3,z3,x4,y4,z4,hqs⟩:=hr.shape
 subst hqs
 obtain ⟨rfl,rfl,rfl⟩:=Value.slice.inj hle
 obtain ⟨rfl,rfl,rfl⟩:=Value.slice.inj hne
 clear hle hne hc1 hc2 hd1 hd2
 have hE:=hide (fun o=>equal_any (m + 1) (vh,vl) (zr 0,[]) (.slice x3 y3 z3) (.slice x4 y4 z4) (.slice none 0 0) (.slice none 0 0) (w.alloc o) (hr.2.1.below (below_al (o:=o) (Below.refl _ _))) (rd_zero m _ 0))
 show Calls _ _ #[.agg #[.int .i64 2,.string nm,.slice x1 nms.length z1,.slice x2 l.length z2,.int .i64 vh.kind,.bool vh.flag,.bool vh.neg,.string vh.dig,.int .i64 vh.exp,.int .u64 vh.bits,.string vh.text,.slice x3 y3 z3,.slice x4 y4 z4]] _ _
 clear hr
 by_cases h2:nms=[]
 ·have E2:=hide h2
  have zE2:nms.length=0:=by rw [h2];rfl
  rw [zE2]
  clear zE2 h2
  by_cases h3:l=[]
  ·have E3:=hide h3
   have zE3:l.length=0:=by rw [h3];rfl
   rw [zE3]
   clear zE3 h3
   go_enter Tryz.func37, Tryz.ntmps37
   go_wp2_with (go_at_call 82;refine (hE.out _).mono ?_;rintro e w1 ⟨b,rfl,hT,hb1⟩)
   go_ret
   exact ⟨b,rfl,(show Hid _ from ⟨fun q=>⟨E2.out,E3.out,hT.1 q⟩,fun q=>hT.2 q.2.2⟩),below_then (below_al (Below.refl _ _)) hb1⟩
  ·have HE3:=hide h3
   go_enter Tryz.func37, Tryz.ntmps37
   go_wp2_with fail
   go_ret
   exact TB.no (fun q=>HE3.out q.2.1) (below_al (Below.refl _ _))
 ·have HE2:=hide h2
  go_enter Tryz.func37, Tryz.ntmps37
  go_wp2_with fail
  go_ret
  exact TB.no (fun q=>HE2.out q.1) (below_al (Below.refl _ _))
set_option maxHeartbeats 2000000 in
set_option maxRecDepth 100000 in
theorem bare_5 (n m:Nat) (nm:ByteArray) (nms:List ByteArray) (vh:Hd) (vl:List (VT m)) (l:List (ET n)) (q:Sl) (w:World) (hr:RE (n + 1) w (⟨5,nm,nms,m + 1,(vh,vl)⟩,l) q) :
  Calls Tryz.prog 37 #[.agg (ecl ⟨5,nm,nms,m + 1,(vh,vl)⟩ q)] w fun e w'=>TB (nms=[]∧l=[]∧VZ (m + 1) (vh,vl)) w e w':=by
 obtain ⟨al,cl,hle,hc1,hc2⟩:=hr.tl.len
 obtain ⟨an,cn,hne,hd1,hd2⟩:=hr.1.len
 obtain ⟨x1,y1,z1,x2,y2,z2,x3,y3,z3,x4,y4,z4,hqs⟩:=hr.shape
 subst hqs
 obtain ⟨rfl,rfl,rfl⟩:=Value.slice.inj hle
 obtain ⟨rfl,rfl,rfl⟩:=Value.slice.inj hne
 clear hle hne hc1 hc2 hd1 hd2
 have hE:=hide (fun o=>equal_any (m + 1) (vh,vl) (zr 0,[]) (.slice x3 y3 z3) (.slice x4 y4 z4) (.slice none 0 0) (.slice none 0 0) (w.alloc o) (hr.2.1.below (below_al (o:=o) (Below.refl _ _))) (rd_zero m _ 0))
 show Calls _ _ #[.agg #[.int .i64 5,.string nm,.slice x1 nms.length z1,.slice x2 l.length z2,.int .i64 vh.kind,.bool vh.flag,.bool vh.neg,.string vh.dig,.int .i64 vh.exp,.int .u64 vh.bits,.string vh.text,.slice x3 y3 z3,.slice x4 y4 z4]] _ _
 clear hr
 by_cases h2:nms=[]
 ·have E2:=hide h2
  have zE2:nms.length=0:=by rw [h2];rfl
  rw [zE2]
  clear zE2 h2
  by_cases h3:l=[]
  ·have E3:=hide h3
   have zE3:l.length=0:=by rw [h3];rfl
   rw [zE3]
   clear zE3 h3
   go_enter Tryz.func37, Tryz.ntmps37
   go_wp2_with (go_at_call 82;refine (hE.out _).mono ?_;rintro e w1 ⟨b,rfl,hT,hb1⟩)
   go_ret
   exact ⟨b,rfl,(show Hid _ from ⟨fun q=>⟨E2.out,E3.out,hT.1 q⟩,fun q=>hT.2 q.2.2⟩),below_then (below_al (Below.refl _ _)) hb1⟩
  ·have HE3:=hide h3
   go_enter Tryz.func37, Tryz.ntmps37
   go_wp2_with fail
   go_ret
   exact TB.no (fun q=>HE3.out q.2.1) (below_al (Below.refl _ _))
 ·have HE2:=hide h2
  go_enter Tryz.func37, Tryz.ntmps37
  go_wp2_with fail
  go_ret
  exact TB.no (fun q=>HE2.out q.1) (below_al (Below.refl _ _))
set_option maxHeartbeats 2000000 in
set_option maxRecDepth 100000 in
theorem bare_3 (n m:Nat) (nm:ByteArray) (nms:List ByteArray) (vh:Hd) (vl:List (VT m)) (l:List (ET n)) (q:Sl) (w:World) (hr:RE (n + 1) w (⟨3,nm,nms,m + 1,(vh,vl)⟩,l) q) :
  Calls Tryz.prog 37 #[.agg (ecl ⟨3,nm,nms,m + 1,(vh,vl)⟩ q)] w fun e w'=>TB (nm=⟨#[]⟩∧VZ (m + 1) (vh,vl)) w e w':=by
 obtain ⟨al,cl,hle,hc1,hc2⟩:=hr.tl.len
 obtain ⟨an,cn,hne,hd1,hd2⟩:=hr.1.len
 obtain ⟨x1,y1,z1,x2,y2,z2,x3,y3,z3,x4,y4,z4,hqs⟩:=hr.shape
 subst hqs
 obtain ⟨rfl,rfl,rfl⟩:=Value.slice.inj hle
 obtain ⟨rfl,rfl,rfl⟩:=Value.slice.inj hne
 clear hle hne hc1 hc2 hd1 hd2
 have hE:=hide (fun o=>equal_any (m + 1) (vh,vl) (zr 0,[]) (.slice x3 y3 z3) (.slice x4 y4 z4) (.slice none 0 0) (.slice none 0 0) (w.alloc o) (hr.2.1.below (below_al (o:=o) (Below.refl _ _))) (rd_zero m _ 0))
 show Calls _ _ #[.agg #[.int .i64 3,.string nm,.slice x1 nms.length z1,.slice x2 l.length z2,.int .i64 vh.kind,.bool vh.flag,.bool vh.neg,.string vh.dig,.int .i64 vh.exp,.int .u64 vh.bits,.string vh.text,.slice x3 y3 z3,.slice x4 y4 z4]] _ _
 clear hr
 by_cases h1:nm=⟨#[]⟩
 ·have E1:=hide h1
  rw [h1]
  clear h1
  go_enter Tryz.func37, Tryz.ntmps37
  go_wp2_with (go_at_call 82;refine (hE.out _).mono ?_;rintro e w1 ⟨b,rfl,hT,hb1⟩)
  go_ret
  exact ⟨b,rfl,(show Hid _ from ⟨fun q=>⟨(by first|trivial|rfl|exact E1.out),hT.1 q⟩,fun q=>hT.2 q.2⟩),below_then (below_al (Below.refl _ _)) hb1⟩
 ·have b1:¬ nm.toList=[]:=tl0 h1
  have H1:=hide h1
  clear h1
  go_enter Tryz.func37, Tryz.ntmps37
  go_wp2_with fail
  go_ret
  exact TB.no (fun q=>H1.out q.1) (below_al (Below.refl _ _))
set_option maxHeartbeats 2000000 in
set_option maxRecDepth 100000 in
theorem bare_6 (n m:Nat) (nm:ByteArray) (nms:List ByteArray) (vh:Hd) (vl:List (VT m)) (l:List (ET n)) (q:Sl) (w:World) (hr:RE (n + 1) w (⟨6,nm,nms,m + 1,(vh,vl)⟩,l) q) :
  Calls Tryz.prog 37 #[.agg (ecl ⟨6,nm,nms,m + 1,(vh,vl)⟩ q)] w fun e w'=>TB (nm=⟨#[]⟩∧VZ (m + 1) (vh,vl)) w e w':=by
 obtain ⟨al,cl,hle,hc1,hc2⟩:=hr.tl.len
 obtain ⟨an,cn,hne,hd1,hd2⟩:=hr.1.len
 obtain ⟨x1,y1,z1,x2,y2,z2,x3,y3,z3,x4,y4,z4,hqs⟩:=hr.shape
 subst hqs
 obtain ⟨rfl,rfl,rfl⟩:=Value.slice.inj hle
 obtain ⟨rfl,rfl,rfl⟩:=Value.slice.inj hne
 clear hle hne hc1 hc2 hd1 hd2
 have hE:=hide (fun o=>equal_any (m + 1) (vh,vl) (zr 0,[]) (.slice x3 y3 z3) (.slice x4 y4 z4) (.slice none 0 0) (.slice none 0 0) (w.alloc o) (hr.2.1.below (below_al (o:=o) (Below.refl _ _))) (rd_zero m _ 0))
 show Calls _ _ #[.agg #[.int .i64 6,.string nm,.slice x1 nms.length z1,.slice x2 l.length z2,.int .i64 vh.kind,.bool vh.flag,.bool vh.neg,.string vh.dig,.int .i64 vh.exp,.int .u64 vh.bits,.string vh.text,.slice x3 y3 z3,.slice x4 y4 z4]] _ _
 clear hr
 by_cases h1:nm=⟨#[]⟩
 ·have E1:=hide h1
  rw [h1]
  clear h1
  go_enter Tryz.func37, Tryz.ntmps37
  go_wp2_with (go_at_call 82;refine (hE.out _).mono ?_;rintro e w1 ⟨b,rfl,hT,hb1⟩)
  go_ret
  exact ⟨b,rfl,(show Hid _ from ⟨fun q=>⟨(by first|trivial|rfl|exact E1.out),hT.1 q⟩,fun q=>hT.2 q.2⟩),below_then (below_al (Below.refl _ _)) hb1⟩
 ·have b1:¬ nm.toList=[]:=tl0 h1
  have H1:=hide h1
  clear h1
  go_enter Tryz.func37, Tryz.ntmps37
  go_wp2_with fail
  go_ret
  exact TB.no (fun q=>H1.out q.1) (below_al (Below.refl _ _))
set_option maxHeartbeats 2000000 in
set_option maxRecDepth 100000 in
theorem bare_4 (n m:Nat) (nm:ByteArray) (nms:List ByteArray) (vh:Hd) (vl:List (VT m)) (l:List (ET n)) (q:Sl) (w:World) (hr:RE (n + 1) w (⟨4,nm,nms,m + 1,(vh,vl)⟩,l) q) :
  Calls Tryz.prog 37 #[.agg (ecl ⟨4,nm,nms,m + 1,(vh,vl)⟩ q)] w fun e w'=>TB (nm=⟨#[]⟩∧nms=[]∧VZ (m + 1) (vh,vl)) w e w':=by
 obtain ⟨al,cl,hle,hc1,hc2⟩:=hr.tl.len
 obtain ⟨an,cn,hne,hd1,hd2⟩:=hr.1.len
 obtain ⟨x1,y1,z1,x2,y2,z2,x3,y3,z3,x4,y4,z4,hqs⟩:=hr.shape
 subst hqs
 obtain ⟨rfl,rfl,rfl⟩:=Value.slice.inj hle
 obtain ⟨rfl,rfl,rfl⟩:=Value.slice.inj hne
 clear hle hne hc1 hc2 hd1 hd2
 have hE:=hide (fun o=>equal_any (m + 1) (vh,vl) (zr 0,[]) (.slice x3 y3 z3) (.slice x4 y4 z4) (.slice none 0 0) (.slice none 0 0) (w.alloc o) (hr.2.1.below (below_al (o:=o) (Below.refl _ _))) (rd_zero m _ 0))
 show Calls _ _ #[.agg #[.int .i64 4,.string nm,.slice x1 nms.length z1,.slice x2 l.length z2,.int .i64 vh.kind,.bool vh.flag,.bool vh.neg,.string vh.dig,.int .i64 vh.exp,.int .u64 vh.bits,.string vh.text,.slice x3 y3 z3,.slice x4 y4 z4]] _ _
 clear hr
 by_cases h1:nm=⟨#[]⟩
 ·have E1:=hide h1
  rw [h1]
  clear h1
  by_cases h2:nms=[]
  ·have E2:=hide h2
   have zE2:nms.length=0:=by rw [h2];rfl
   rw [zE2]
   clear zE2 h2
   go_enter Tryz.func37, Tryz.ntmps37
   go_wp2_with (go_at_call 82;refine (hE.out _).mono ?_;rintro e w1 ⟨b,rfl,hT,hb1⟩)
   go_ret
   exact ⟨b,rfl,(show Hid _ from ⟨fun q=>⟨(by first|trivial|rfl|exact E1.out),E2.out,hT.1 q⟩,fun q=>hT.2 q.2.2⟩),below_then (below_al (Below.refl _ _)) hb1⟩
  ·have HE2:=hide h2
   go_enter Tryz.func37, Tryz.ntmps37
   go_wp2_with fail
   go_ret
   exact TB.no (fun q=>HE2.out q.2.1) (below_al (Below.refl _ _))
 ·have b1:¬ nm.toList=[]:=tl0 h1
  have H1:=hide h1
  clear h1
  go_enter Tryz.func37, Tryz.ntmps37
  go_wp2_with fail
  go_ret
  exact TB.no (fun q=>H1.out q.1) (below_al (Below.refl _ _))
set_option maxHeartbeats 2000000 in
set_option maxRecDepth 100000 in
theorem bare_12 (n m:Nat) (nm:ByteArray) (nms:List ByteArray) (vh:Hd) (vl:List (VT m)) (l:List (ET n)) (q:Sl) (w:World) (hr:RE (n + 1) w (⟨12,nm,nms,m + 1,(vh,vl)⟩,l) q) :
  Calls Tryz.prog 37 #[.agg (ecl ⟨12,nm,nms,m + 1,(vh,vl)⟩ q)] w fun e w'=>TB (nm=⟨#[]⟩∧nms=[]∧VZ (m + 1) (vh,vl)) w e w':=by
 obtain ⟨al,cl,hle,hc1,hc2⟩:=hr.tl.len
 obtain ⟨an,cn,hne,hd1,hd2⟩:=hr.1.len
 obtain ⟨x1,y1,z1,x2,y2,z2,x3,y3,z3,x4,y4,z4,hqs⟩:=hr.shape
 subst hqs
 obtain ⟨rfl,rfl,rfl⟩:=Value.slice.inj hle
 obtain ⟨rfl,rfl,rfl⟩:=Value.slice.inj hne
 clear hle hne hc1 hc2 hd1 hd2
 have hE:=hide (fun o=>equal_any (m + 1) (vh,vl) (zr 0,[]) (.slice x3 y3 z3) (.slice x4 y4 z4) (.slice none 0 0) (.slice none 0 0) (w.alloc o) (hr.2.1.below (below_al (o:=o) (Below.refl _ _))) (rd_zero m _ 0))
 show Calls _ _ #[.agg #[.int .i64 12,.string nm,.slice x1 nms.length z1,.slice x2 l.length z2,.int .i64 vh.kind,.bool vh.flag,.bool vh.neg,.string vh.dig,.int .i64 vh.exp,.int .u64 vh.bits,.string vh.text,.slice x3 y3 z3,.slice x4 y4 z4]] _ _
 clear hr
 by_cases h1:nm=⟨#[]⟩
 ·have E1:=hide h1
  rw [h1]
  clear h1
  by_cases h2:nms=[]
  ·have E2:=hide h2
   have zE2:nms.length=0:=by rw [h2];rfl
   rw [zE2]
   clear zE2 h2
   go_enter Tryz.func37, Tryz.ntmps37
   go_wp2_with (go_at_call 82;refine (hE.out _).mono ?_;rintro e w1 ⟨b,rfl,hT,hb1⟩)
   go_ret
   exact ⟨b,rfl,(show Hid _ from ⟨fun q=>⟨(by first|trivial|rfl|exact E1.out),E2.out,hT.1 q⟩,fun q=>hT.2 q.2.2⟩),below_then (below_al (Below.refl _ _)) hb1⟩
  ·have HE2:=hide h2
   go_enter Tryz.func37, Tryz.ntmps37
   go_wp2_with fail
   go_ret
   exact TB.no (fun q=>HE2.out q.2.1) (below_al (Below.refl _ _))
 ·have b1:¬ nm.toList=[]:=tl0 h1
  have H1:=hide h1
  clear h1
  go_enter Tryz.func37, Tryz.ntmps37
  go_wp2_with fail
  go_ret
  exact TB.no (fun q=>H1.out q.1) (below_al (Below.refl _ _))
set_option maxHeartbeats 2000000 in
set_option maxRecDepth 100000 in
theorem bare_7 (n m:Nat) (nm:ByteArray) (nms:List ByteArray) (vh:Hd) (vl:List (VT m)) (l:List (ET n)) (q:Sl) (w:World) (hr:RE (n + 1) w (⟨7,nm,nms,m + 1,(vh,vl)⟩,l) q) :
  Calls Tryz.prog 37 #[.agg (ecl ⟨7,nm,nms,m + 1,(vh,vl)⟩ q)] w fun e w'=>TB (nm=⟨#[]⟩∧nms=[]∧l=[]) w e w':=by
 obtain ⟨al,cl,hle,hc1,hc2⟩:=hr.tl.len
 obtain ⟨an,cn,hne,hd1,hd2⟩:=hr.1.len
 obtain ⟨x1,y1,z1,x2,y2,z2,x3,y3,z3,x4,y4,z4,hqs⟩:=hr.shape
 subst hqs
 obtain ⟨rfl,rfl,rfl⟩:=Value.slice.inj hle
 obtain ⟨rfl,rfl,rfl⟩:=Value.slice.inj hne
 clear hle hne hc1 hc2 hd1 hd2
 have hE:=hide (fun o=>equal_any (m + 1) (zr 0,[]) (zr 0,[]) (.slice none 0 0) (.slice none 0 0) (.slice none 0 0) (.slice none 0 0) (w.alloc o) (rd_zero m _ 0) (rd_zero m _ 0))
 show Calls _ _ #[.agg #[.int .i64 7,.string nm,.slice x1 nms.length z1,.slice x2 l.length z2,.int .i64 vh.kind,.bool vh.flag,.bool vh.neg,.string vh.dig,.int .i64 vh.exp,.int .u64 vh.bits,.string vh.text,.slice x3 y3 z3,.slice x4 y4 z4]] _ _
 clear hr
 by_cases h1:nm=⟨#[]⟩
 ·have E1:=hide h1
  rw [h1]
  clear h1
  by_cases h2:nms=[]
  ·have E2:=hide h2
   have zE2:nms.length=0:=by rw [h2];rfl
   rw [zE2]
   clear zE2 h2
   by_cases h3:l=[]
   ·have E3:=hide h3
    have zE3:l.length=0:=by rw [h3];rfl
    rw [zE3]
    clear zE3 h3
    go_enter Tryz.func37, Tryz.ntmps37
    go_wp2_with (go_at_call 82;refine (hE.out _).mono ?_;rintro e w1 ⟨b,rfl,hT,hb1⟩)
    go_ret
    exact ⟨b,rfl,(show Hid _ from ⟨fun q=>⟨(by first|trivial|rfl|exact E1.out),E2.out,E3.out⟩,fun q=>hT.2 rfl⟩),below_then (below_al (Below.refl _ _)) hb1⟩
   ·have HE3:=hide h3
    go_enter Tryz.func37, Tryz.ntmps37
    go_wp2_with fail
    go_ret
    exact TB.no (fun q=>HE3.out q.2.2) (below_al (Below.refl _ _))
  ·have HE2:=hide h2
   go_enter Tryz.func37, Tryz.ntmps37
   go_wp2_with fail
   go_ret
   exact TB.no (fun q=>HE2.out q.2.1) (below_al (Below.refl _ _))
 ·have b1:¬ nm.toList=[]:=tl0 h1
  have H1:=hide h1
  clear h1
  go_enter Tryz.func37, Tryz.ntmps37
  go_wp2_with fail
  go_ret
  exact TB.no (fun q=>H1.out q.1) (below_al (Below.refl _ _))
end Lx
end Go.Proofs.YtcnfchblfcfimaaGreatDoor
namespace Go.Proofs.YtcnfchblfcfimaaGreatDoor
namespace Lx
open Go.RowKit
theorem TB.iff {p p':Prop} {w w':World} {e:Ending} (h:TB p w e w') (k:p↔p'):TB p' w e w':=by
 obtain ⟨b,e1,t,hb⟩:=h
 exact ⟨b,e1,(show Hid _ from ⟨fun q=>k.1 (t.1 q),fun q=>t.2 (k.2 q)⟩),hb⟩
def EBare {α:Type} (h:Eh) (l:List α):Prop:=(1≤h.op∧h.op≤12)∧(h.op=2∨h.op=5∨h.name=⟨#[]⟩)∧(h.op=3∨h.op=6∨h.names=[])∧(h.op=3∨h.op=4∨h.op=6∨h.op=12∨l=[])∧(h.op=7∨VZ h.vn h.val)
set_option maxHeartbeats 2000000 in
set_option maxRecDepth 100000 in
theorem ebare_any (n:Nat) (h:Eh) (l:List (ET n)) (q:Sl) (w:World) (hr:RE (n + 1) w (h,l) q) :
  Calls Tryz.prog 37 #[.agg (ecl h q)] w fun e w'=>TB (EBare h l) w e w':=by
 obtain ⟨op,nm,nms,vn,val⟩:=h
 cases vn with
 | zero=>exact Empty.elim val
 | succ m =>
  obtain ⟨vh,vl⟩:=val
  have key:∀ (k:Int) (p:Prop),(Calls Tryz.prog 37 #[.agg (ecl ⟨k,nm,nms,m + 1,(vh,vl)⟩ q)] w fun e w'=>TB p w e w')→(p↔EBare ⟨k,nm,nms,m + 1,(vh,vl)⟩ l)→Calls Tryz.prog 37 #[.agg (ecl ⟨k,nm,nms,m + 1,(vh,vl)⟩ q)] w fun e w'=>TB (EBare ⟨k,nm,nms,m + 1,(vh,vl)⟩ l) w e w':=fun k p h1 h2=>h1.mono fun e w' h3=>TB.iff h3 h2
  by_cases k1:op=1
  ·subst k1;exact key 1 _ (bare_1 n m nm nms vh vl l q w hr) (by simp [EBare])
  by_cases k2:op=2
  ·subst k2;exact key 2 _ (bare_2 n m nm nms vh vl l q w hr) (by simp [EBare])
  by_cases k3:op=3
  ·subst k3;exact key 3 _ (bare_3 n m nm nms vh vl l q w hr) (by simp [EBare])
  by_cases k4:op=4
  ·subst k4;exact key 4 _ (bare_4 n m nm nms vh vl l q w hr) (by simp [EBare])
  by_cases k5:op=5
  ·subst k5;exact key 5 _ (bare_5 n m nm nms vh vl l q w hr) (by simp [EBare])
  by_cases k6:op=6
  ·subst k6;exact key 6 _ (bare_6 n m nm nms vh vl l q w hr) (by simp [EBare])
  by_cases k7:op=7
  ·subst k7;exact key 7 _ (bare_7 n m nm nms vh vl l q w hr) (by simp [EBare])
  by_cases k8:op=8
  ·subst k8;exact key 8 _ (bare_8 n m nm nms vh vl l q w hr) (by simp [EBare])
  by_cases k9:op=9
  ·subst k9;exact key 9 _ (bare_9 n m nm nms vh vl l q w hr) (by simp [EBare])
  by_cases k10:op=10
  ·subst k10;exact key 10 _ (bare_10 n m nm nms vh vl l q w hr) (by simp [EBare])
  by_cases k11:op=11
  ·subst k11;exact key 11 _ (bare_11 n m nm nms vh vl l q w hr) (by simp [EBare])
  by_cases k12:op=12
  ·subst k12;exact key 12 _ (bare_12 n m nm nms vh vl l q w hr) (by simp [EBare])
  have hx:¬ EBare ⟨op,nm,nms,m + 1,(vh,vl)⟩ l:=by
   rintro ⟨⟨q1,q2⟩,_⟩
   simp only at q1 q2
   omega
  have hx':=hide hx
  obtain ⟨x1,y1,z1,x2,y2,z2,x3,y3,z3,x4,y4,z4,hqs⟩:=hr.shape
  subst hqs
  clear hx hr key
  show Calls _ _ #[.agg #[.int .i64 op,.string nm,.slice x1 y1 z1,.slice x2 y2 z2,.int .i64 vh.kind,.bool vh.flag,.bool vh.neg,.string vh.dig,.int .i64 vh.exp,.int .u64 vh.bits,.string vh.text,.slice x3 y3 z3,.slice x4 y4 z4]] _ _
  go_enter Tryz.func37, Tryz.ntmps37
  go_wp2_with fail
  go_ret
  exact TB.no hx'.out (below_al (Below.refl _ _))
set_option maxHeartbeats 2000000 in
theorem isConst_any (k:Int) (w:World):Calls Tryz.prog 83 #[.int .i64 k] w fun e w'=>TB (k=1∨k=2∨k=3∨k=5) w e w':=by
 by_cases k1:k=1
 ·subst k1
  go_enter Tryz.func83, Tryz.ntmps83
  go_wp2_with fail
  go_ret
  exact TB.yes (by simp) (Below.refl _ _)
 by_cases k2:k=2
 ·subst k2
  go_enter Tryz.func83, Tryz.ntmps83
  go_wp2_with fail
  go_ret
  exact TB.yes (by simp) (Below.refl _ _)
 by_cases k3:k=3
 ·subst k3
  go_enter Tryz.func83, Tryz.ntmps83
  go_wp2_with fail
  go_ret
  exact TB.yes (by simp) (Below.refl _ _)
 by_cases k5:k=5
 ·subst k5
  go_enter Tryz.func83, Tryz.ntmps83
  go_wp2_with fail
  go_ret
  exact TB.yes (by simp) (Below.refl _ _)
 have hx:=hide (show ¬ (k=1∨k=2∨k=3∨k=5) by omega)
 go_enter Tryz.func83, Tryz.ntmps83
 go_wp2_with fail
 go_ret
 exact TB.no hx.out (Below.refl _ _)
end Lx
end Go.Proofs.YtcnfchblfcfimaaGreatDoor
namespace Go.Proofs.YtcnfchblfcfimaaGreatDoor
namespace Lx
open Go.RowKit
structure Ask (F:FuncId) (P:(n:Nat)→ET n→Prop) (S:(n:Nat)→ET n→World→Prop):Prop where
 call:∀ (n:Nat) (x:ET n) (q:Sl) (w:World),RE n w x q→S n x w→Calls Tryz.prog F #[.agg (ecl (ehd n x) q)] w fun e w'=>TB (P n x) w e w'
 low:∀ (n:Nat) (x:ET n) (w W:World),S n x w→Below w.heap.size w W→S n x W
 kid:∀ (n:Nat) (h:Eh) (l:List (ET n)) (w:World),S (n + 1) (h,l) w→∀ i (hi:i<l.length),S n l[i] w
def evA (P:(n:Nat)→ET n→Prop):(n:Nat)→ET n→Prop
 | 0,_=>False
 | n + 1,x=>P (n + 1) x∧∀ i (h:i<x.2.length),evA P n x.2[i]
def such (F:FuncId):Value:=.func (.func F) #[] #[]
def EvOk (F:FuncId) (P:(n:Nat)→ET n→Prop) (S:(n:Nat)→ET n→World→Prop) (n:Nat):Prop:=∀ (x:ET n) (q:Sl) (w:World),RE n w x q→S n x w→Calls Tryz.prog 36 #[.agg (ecl (ehd n x) q),such F] w fun e w'=>TB (evA P n x) w e w'
def Sb (W:World) (i:Nat) (F:FuncId):Prop:=W.heap[i]?=some (.cells #[such F] 40 (0,0))
section
variable {F : FuncId} {P : (n : Nat) → ET n → Prop} {S : (n : Nat) → ET n → World → Prop}
set_option maxHeartbeats 2000000 in
set_option maxRecDepth 100000 in
theorem every1_any (n:Nat) (ih:EvOk F P S n) (x:ET n) (q:Sl) (w:World) (i:Nat) (hr:RE n w x q) (hs:S n x w) (hb:Sb w i F) (A:Ask F P S):Calls Tryz.prog 81 #[.agg (ecl (ehd n x) q),.pointer (some ⟨i,0,none⟩)] w fun e w'=>TB (¬ evA P n x) w e w':=by
 obtain ⟨x1,y1,z1,x2,y2,z2,x3,y3,z3,x4,y4,z4,hqs⟩:=hr.shape
 subst hqs
 have hlt:i<w.heap.size:=(Array.getElem?_eq_some_iff.1 hb).1
 have cs:w.cell? ⟨i,0,none⟩=some (such F):=by unfold World.cell?;rw [hb];rfl
 have hc:=hide (fun o=>ih x ⟨.slice x1 y1 z1,.slice x2 y2 z2,.slice x3 y3 z3,.slice x4 y4 z4⟩ (w.alloc o) (hr.below (below_al (Below.refl _ _))) (A.low _ _ _ _ hs (below_al (Below.refl _ _))))
 clear hr hs hb ih A
 unfold such at cs hc
 unfold ecl
 go_enter Tryz.func81, Tryz.ntmps81
 go_wp2_with (go_at_call 36;refine (hc.out _).mono ?_;rintro e w1 ⟨b,rfl,hT,hb1⟩)
 go_ret
 refine ⟨!b,rfl,(show Hid _ from ⟨fun k he=>?_,fun hne=>?_⟩),below_then (below_al (Below.refl _ _)) hb1⟩
 ·have:=hT.2 he
  rw [this] at k
  cases k
 ·cases b
  ·rfl
  ·exact absurd (hT.1 rfl) hne
theorem Sb.below {W W1:World} {i:Nat} (h:Sb W i F) (hb:Below W.heap.size W W1):Sb W1 i F:=(hb.block _ (Array.getElem?_eq_some_iff.1 h).1).trans h
set_option maxHeartbeats 2000000 in
set_option maxRecDepth 100000 in
theorem eindex_any (n:Nat) (ih:EvOk F P S n) (v:Value) (l:List (ET n)) (w:World) (j:Nat) (hl:EL n w v l) (hs:∀ i (hi:i<l.length),S n l[i] w) (hb:Sb w j F) (A:Ask F P S) :
  Calls Tryz.prog 132 #[v,.func (.func 81) #[] #[.pointer (some ⟨j,0,none⟩)]] w fun e w'=>∃ k:Int,e=.returned (.int .i64 k)∧Hid (0≤k↔∃ i,∃ h:i<l.length,¬ evA P n l[i])∧Below w.heap.size w w':=by
 obtain ⟨al,cl,rfl,hl1,hl2⟩:=hl.len
 have ml:maxLen=9223372036854775807:=rfl
 have HL:=hide hl
 have HS:=hide hs
 have HB:=hide hb
 have HA:=hide A
 have IH:=hide ih
 clear hl hs hb A ih
 go_enter Tryz.func132, Tryz.ntmps132
 go_wp2_with fail
 go_loopw [8] (fun i w'=>∃ k:Nat,i=.int .i64 k∧k≤l.length∧Hid ((∀ i (h1:i<l.length),i<k→evA P n l[i])∧Below w.heap.size w w')) (fun i _=>l.length - (intOf i).toNat)
 case atStart=>exact ⟨0,rfl,Nat.zero_le _,(fun i _ h=>by omega),Below.refl _ _⟩
 case round =>
  obtain ⟨k,rfl,hk,H⟩:=hrel
  by_cases hkl:k<l.length
  ·have hki:(k:Int)<(l.length:Int):=by omega
   have hk63:(k:Int)<9223372036854775807:=by omega
   obtain ⟨b,o,c,he,hbl,hlc,hcm,q,hrg,hrd⟩:=HL.out.at k hkl
   have he':=Value.slice.inj he
   obtain ⟨rfl,_,rfl⟩:=he'
   clear he
   have hrg2:=rangeAt_below hrg H.out.2 hbl
   obtain ⟨x1,y1,z1,x2,y2,z2,x3,y3,z3,x4,y4,z4,hqs⟩:=hrd.shape
   subst hqs
   have q0:=range13 hrg2
   have hc:=hide (fun W (hb:Below w.heap.size w W)=>every1_any n IH.out l[k] ⟨.slice x1 y1 z1,.slice x2 y2 z2,.slice x3 y3 z3,.slice x4 y4 z4⟩ W j (hrd.below hb) (HA.out.low _ _ _ _ (HS.out k hkl) hb) (HB.out.below hb) HA.out)
   clear hrg hrg2 hrd
   unfold ecl at hc
   go_wp2_with (go_at_call 81;refine Sto.out ?_)
   refine Sto.mk ?_
   refine (hc.out _ H.out.2).mono ?_
   rintro e w2 ⟨b2,rfl,hT,hb1⟩
   have hb2:=hide (below_then H.out.2 hb1)
   cases b2
   ·have hEq:Hid (evA P n l[k]):=hide (Classical.byContradiction fun q=>by have:=hT.2 q;cases this)
    go_wp2_with fail
    refine ⟨⟨k + 1,by go_num,by omega,(fun i h1 h3=>?_),hb2.out⟩,by simp [intOf];omega⟩
    by_cases e:i=k
    ·subst e;exact hEq.out
    ·exact H.out.1 i h1 (by omega)
   ·have hne:=hide (hT.1 rfl)
    go_wp2_with fail
    go_ret
    exact ⟨k,rfl,(show Hid _ from ⟨fun _=>⟨k,hkl,hne.out⟩,fun _=>by omega⟩),hb2.out⟩
  ·have hki:¬ ((k:Int)<(l.length:Int)):=by omega
   have hE':=hide (show ∀ i (h1:i<l.length),evA P n l[i] from fun i h1=>H.out.1 i h1 (by omega))
   go_wp2_with fail
   go_ret
   exact ⟨-1,rfl,(show Hid _ from ⟨fun h=>by omega,fun ⟨i,h,q⟩=>absurd (hE'.out i h) q⟩),H.out.2⟩
set_option maxHeartbeats 2000000 in
set_option maxRecDepth 100000 in
theorem econtains_any (n:Nat) (ih:EvOk F P S n) (v:Value) (l:List (ET n)) (w:World) (j:Nat) (hl:EL n w v l) (hs:∀ i (hi:i<l.length),S n l[i] w) (hb:Sb w j F) (A:Ask F P S) :
  Calls Tryz.prog 80 #[v,.func (.func 81) #[] #[.pointer (some ⟨j,0,none⟩)]] w fun e w'=>TB (∃ i,∃ h:i<l.length,¬ evA P n l[i]) w e w':=by
 have hc:=hide (eindex_any n ih v l w j hl hs hb A)
 obtain ⟨al,cl,rfl,hl1,hl2⟩:=hl.len
 obtain ⟨p,hp⟩:∃ p,(∃ i,∃ h:i<l.length,¬ evA P n l[i])=p:=⟨_,rfl⟩
 rw [hp] at hc ⊢
 clear hl hs hb A ih hp
 go_enter Tryz.func80, Tryz.ntmps80
 go_wp2_with (go_at_call 132;refine hc.out.mono ?_;rintro e w1 ⟨k,rfl,hT,hb1⟩)
 go_ret
 exact ⟨_,rfl,(show Hid _ from ⟨fun q=>hT.out.1 (by simpa using q),fun q=>by simpa using hT.out.2 q⟩),hb1⟩
set_option maxHeartbeats 4000000 in
set_option maxRecDepth 100000 in
theorem every_step (hF:F=37∨F=38∨F=39) (n:Nat) (ih:EvOk F P S n) (A:Ask F P S):EvOk F P S (n + 1):=by
 intro x q w hr hs
 obtain ⟨h,l⟩:=x
 obtain ⟨al,cl,hle,hc1,hc2⟩:=hr.tl.len
 obtain ⟨x1,y1,z1,x2,y2,z2,x3,y3,z3,x4,y4,z4,hqs⟩:=hr.shape
 subst hqs
 obtain ⟨rfl,rfl,rfl⟩:=Value.slice.inj hle
 clear hle
 have HR:=hide hr
 have HS:=hide hs
 have HA:=hide A
 have IH:=hide ih
 have hc:=hide (fun W (hb:Below w.heap.size w W)=>A.call (n + 1) (h,l) ⟨.slice x1 y1 z1,.slice x2 l.length z2,.slice x3 y3 z3,.slice x4 y4 z4⟩ W (hr.below hb) (A.low _ _ _ _ hs hb))
 clear hr hs A ih
 have hmf:∀ (fn:Fn) (first cap:Array Value) (w:World),(Instr.makeFunc fn first cap).run Tryz.prog w=.ok (.func fn first cap) w:=fun _ _ _ _=>rfl
 show Calls _ _ #[.agg #[.int .i64 h.op,.string h.name,.slice x1 y1 z1,.slice x2 l.length z2,.int .i64 (vhd h.vn h.val).kind,.bool (vhd h.vn h.val).flag,.bool (vhd h.vn h.val).neg,.string (vhd h.vn h.val).dig,.int .i64 (vhd h.vn h.val).exp,.int .u64 (vhd h.vn h.val).bits,.string (vhd h.vn h.val).text,.slice x3 y3 z3,.slice x4 y4 z4],_] _ _
 unfold such
 simp only [ehd,ecl] at hc
 obtain ⟨B,hB⟩:∃ B,w.alloc (.cells #[.int .i64 h.op,.string h.name,.slice x1 y1 z1,.slice x2 l.length z2,.int .i64 (vhd h.vn h.val).kind,.bool (vhd h.vn h.val).flag,.bool (vhd h.vn h.val).neg,.string (vhd h.vn h.val).dig,.int .i64 (vhd h.vn h.val).exp,.int .u64 (vhd h.vn h.val).bits,.string (vhd h.vn h.val).text,.slice x3 y3 z3,.slice x4 y4 z4] 33)=B:=⟨_,rfl⟩
 have S0:Hid (Sb (B.alloc (.cells #[such F] 40)) (w.heap.size + 1) F):=by
  have:=heap_alloc_last B (.cells #[such F] 40)
  rw [←hB,World.size_alloc] at this
  rw [←hB]
  exact this
 have X0:Hid (Ex (B.alloc (.cells #[such F] 40)) w.heap.size h ⟨.slice x1 y1 z1,.slice x2 l.length z2,.slice x3 y3 z3,.slice x4 y4 z4⟩):=by
  rw [←hB]
  exact (ex_new w h _).below (below_al (Below.refl _ _))
 rw [←hB] at S0 X0
 clear hB B
 unfold such at S0
 rcases hF with rfl|rfl|rfl
 ·go_enter Tryz.func36, Tryz.ntmps36
  go_wp2_with (go_at_call 37;refine Sto.out ?_)
  refine Sto.mk ?_
  refine (hc.out _ (below_al (below_al (Below.refl _ _)))).mono ?_
  rintro e w1 ⟨b,rfl,hT,hb1⟩
  have hT1:=hide hT
  have S1:=hide (S0.out.below hb1)
  have X1:=hide (X0.out.below hb1)
  have B1:=hide (below_then (below_al (below_al (Below.refl _ _))) hb1)
  have x0:=X1.out.cells
  have hc2:=hide (econtains_any n IH.out (.slice x2 l.length z2) l w1 (w.heap.size + 1) (HR.out.tl.below B1.out) (fun i hi=>HA.out.low _ _ _ _ (HA.out.kid n h l w HS.out i hi) B1.out) S1.out HA.out)
  clear hT hb1 S0 X0
  cases b
  ·have hn:=hide (show ¬ P (n + 1) (h,l) from fun q=>by have:=hT1.out.2 q;cases this)
   go_wp2_with fail
   go_ret
   exact TB.no (fun q=>hn.out q.1) B1.out
  ·have hy:=hide (hT1.out.1 rfl)
   go_wp2_with (go_at_call 80;refine Sto.out ?_)
   refine Sto.mk ?_
   refine hc2.out.mono ?_
   rintro e w2 ⟨b2,rfl,hT2,hb2⟩
   have H2:=hide hT2
   have B2:=hide (below_then B1.out hb2)
   clear hT2 hb2
   go_wp2_with fail
   go_ret
   refine ⟨!b2,rfl,(show Hid _ from ⟨fun k=>⟨hy.out,fun i hi=>Classical.byContradiction fun q=>?_⟩,fun hq=>?_⟩),B2.out⟩
   ·have:=H2.out.2 ⟨i,hi,q⟩
    rw [this] at k
    cases k
   ·cases b2
    ·rfl
    ·obtain ⟨i,hi,q⟩:=H2.out.1 rfl
     exact absurd (hq.2 i hi) q
 ·go_enter Tryz.func36, Tryz.ntmps36
  go_wp2_with (go_at_call 38;refine Sto.out ?_)
  refine Sto.mk ?_
  refine (hc.out _ (below_al (below_al (Below.refl _ _)))).mono ?_
  rintro e w1 ⟨b,rfl,hT,hb1⟩
  have hT1:=hide hT
  have S1:=hide (S0.out.below hb1)
  have X1:=hide (X0.out.below hb1)
  have B1:=hide (below_then (below_al (below_al (Below.refl _ _))) hb1)
  have x0:=X1.out.cells
  have hc2:=hide (econtains_any n IH.out (.slice x2 l.length z2) l w1 (w.heap.size + 1) (HR.out.tl.below B1.out) (fun i hi=>HA.out.low _ _ _ _ (HA.out.kid n h l w HS.out i hi) B1.out) S1.out HA.out)
  clear hT hb1 S0 X0
  cases b
  ·have hn:=hide (show ¬ P (n + 1) (h,l) from fun q=>by have:=hT1.out.2 q;cases this)
   go_wp2_with fail
   go_ret
   exact TB.no (fun q=>hn.out q.1) B1.out
  ·have hy:=hide (hT1.out.1 rfl)
   go_wp2_with (go_at_call 80;refine Sto.out ?_)
   refine Sto.mk ?_
   refine hc2.out.mono ?_
   rintro e w2 ⟨b2,rfl,hT2,hb2⟩
   have H2:=hide hT2
   have B2:=hide (below_then B1.out hb2)
   clear hT2 hb2
   go_wp2_with fail
   go_ret
   refine ⟨!b2,rfl,(show Hid _ from ⟨fun k=>⟨hy.out,fun i hi=>Classical.byContradiction fun q=>?_⟩,fun hq=>?_⟩),B2.out⟩
   ·have:=H2.out.2 ⟨i,hi,q⟩
    rw [this] at k
    cases k
   ·cases b2
    ·rfl
    ·obtain ⟨i,hi,q⟩:=H2.out.1 rfl
     exact absurd (hq.2 i hi) q
 ·go_enter Tryz.func36, Tryz.ntmps36
  go_wp2_with (go_at_call 39;refine Sto.out ?_)
  refine Sto.mk ?_
  refine (hc.out _ (below_al (below_al (Below.refl _ _)))).mono ?_
  rintro e w1 ⟨b,rfl,hT,hb1⟩
  have hT1:=hide hT
  have S1:=hide (S0.out.below hb1)
  have X1:=hide (X0.out.below hb1)
  have B1:=hide (below_then (below_al (below_al (Below.refl _ _))) hb1)
  have x0:=X1.out.cells
  have hc2:=hide (econtains_any n IH.out (.slice x2 l.length z2) l w1 (w.heap.size + 1) (HR.out.tl.below B1.out) (fun i hi=>HA.out.low _ _ _ _ (HA.out.kid n h l w HS.out i hi) B1.out) S1.out HA.out)
  clear hT hb1 S0 X0
  cases b
  ·have hn:=hide (show ¬ P (n + 1) (h,l) from fun q=>by have:=hT1.out.2 q;cases this)
   go_wp2_with fail
   go_ret
   exact TB.no (fun q=>hn.out q.1) B1.out
  ·have hy:=hide (hT1.out.1 rfl)
   go_wp2_with (go_at_call 80;refine Sto.out ?_)
   refine Sto.mk ?_
   refine hc2.out.mono ?_
   rintro e w2 ⟨b2,rfl,hT2,hb2⟩
   have H2:=hide hT2
   have B2:=hide (below_then B1.out hb2)
   clear hT2 hb2
   go_wp2_with fail
   go_ret
   refine ⟨!b2,rfl,(show Hid _ from ⟨fun k=>⟨hy.out,fun i hi=>Classical.byContradiction fun q=>?_⟩,fun hq=>?_⟩),B2.out⟩
   ·have:=H2.out.2 ⟨i,hi,q⟩
    rw [this] at k
    cases k
   ·cases b2
    ·rfl
    ·obtain ⟨i,hi,q⟩:=H2.out.1 rfl
     exact absurd (hq.2 i hi) q
theorem every_any (hF:F=37∨F=38∨F=39) (A:Ask F P S):∀ n,EvOk F P S n
 | 0=>fun x=>Empty.elim x
 | n + 1=>every_step hF n (every_any hF A n) A
def bareP:(n:Nat)→ET n→Prop
 | 0,_=>False
 | _ + 1,x=>EBare x.1 x.2
theorem askBare:Ask 37 bareP (fun _ _ _=>True):=⟨fun n x q w hr _=>by
 cases n with
 | zero=>exact Empty.elim x
 | succ n=>exact ebare_any n x.1 x.2 q w hr,fun _ _ _ _ _ _=>trivial,fun _ _ _ _ _ _ _=>trivial⟩
end
end Lx
end Go.Proofs.YtcnfchblfcfimaaGreatDoor
namespace Go.Proofs.YtcnfchblfcfimaaGreatDoor
namespace Lx
open Go.RowKit
set_option maxHeartbeats 1000000 in
set_option maxRecDepth 100000 in
theorem partsE_any:∀ (n:Nat) (x:VT n) (ns ls:Value) (w:World) (m d:Nat),RD n w x ns ls→Sz n x→m≤1125899906842624→d≤301 →
  Calls Tryz.prog 68 #[.agg (vals (vhd n x) ns ls),.int .i64 m,.int .i64 32768,.int .i64 d] w fun e w'=>∃ p:Nat,e=.returned (.int .i64 p)∧Hid ((p≤32768→p=m + blk n x)∧p≤4503599627370496)∧Below w.heap.size w w':=by
 intro n
 induction n with
 | zero=>intro x;exact Empty.elim x
 | succ n ih =>
  intro x ns ls w m d hr hz hm hd
  obtain ⟨h,l⟩:=x
  obtain ⟨al,cl,rfl,hc1,hc2⟩:=hr.len
  obtain ⟨an,cn,rfl,hn1,hn2⟩:=hr.1.len
  obtain ⟨z1,z2,z3,z4,z5⟩:=hz
  have hr:=hide hr
  have ih':=hide ih
  have z4:=hide z4
  have z5:=hide z5
  clear ih
  have hm1:(m:Int)≤1125899906842624:=by omega
  have e1:(h.text.size:Int)≤281474976710656:=by simp only at z1;omega
  have e2:(h.dig.size:Int)≤281474976710656:=by simp only at z2;omega
  have e3:(h.names.length:Int)≤281474976710656:=by simp only at z3;omega
  clear z1 z2 z3
  simp only at hn1 hn2 hc1 hc2
  show Calls _ _ #[.agg #[.int .i64 h.kind,.bool h.flag,.bool h.neg,.string h.dig,.int .i64 h.exp,.int .u64 h.bits,.string h.text,.slice an h.names.length cn,.slice al l.length cl],_,_,_] _ _
  by_cases hd3:(300:Int)<(d:Int)
  ·go_enter Tryz.func68, Tryz.ntmps68
   go_wp2_with fail
   go_ret
   exact ⟨32769,by first|rfl|simp,⟨fun h=>by omega,by omega⟩,by first|exact below_al (Below.refl _ _)|exact Below.refl _ _⟩
  ·have hB0:=hide (bx_new w h (.slice an h.names.length cn) (.slice al l.length cl))
   obtain ⟨q,hq⟩:∃ q:Nat,q=m + 1 + h.text.size + h.dig.size + h.names.length:=⟨_,rfl⟩
   have hqi:(m:Int) + 1 + h.text.size + h.dig.size + h.names.length=(q:Int):=by omega
   have hq2:q≤4503599627370496:=by omega
   have hD:m + blk (n + 1) (h,l)=q + suml (h.names.map ByteArray.size) + suml (l.map (blk n)):=by simp only [blk];omega
   have hq':=hide hq
   have hD':=hide hD
   have hq2':=hide hq2
   clear hq hD hq2
   have ml:maxLen=9223372036854775807:=rfl
   go_enter Tryz.func68, Tryz.ntmps68
   go_wp2_with fail
   go_loopw [1,9] (fun u i w'=>∃ (k p:Nat),u=.int .i64 p∧i=.int .i64 k∧k≤h.names.length∧Hid (p=q + suml ((h.names.map ByteArray.size).take k)∧p≤4503599627370496∧Below w.heap.size w w'∧Bx w' w.heap.size h (.slice an h.names.length cn) (.slice al l.length cl))) (fun _ i _=>h.names.length - (intOf i).toNat)
   case atStart=>exact ⟨0,q,rfl,rfl,Nat.zero_le _,rfl,by have:=hq2'.out;omega,below_al (Below.refl _ _),hB0.out⟩
   case round =>
    obtain ⟨k,p,rfl,rfl,hk,H⟩:=hrel
    obtain ⟨c0,c1,c2,c3,c4,c5,c6,c7,c8⟩:=H.out.2.2.2.cells
    clear c0 c1 c2 c3 c4 c5 c6
    have hp63:(p:Int)≤4503599627370496:=by have:=H.out.2.1;omega
    by_cases hkl:k<h.names.length
    ·have hki:(k:Int)<(h.names.length:Int):=by omega
     by_cases hp:(p:Int)≤32768
     ·obtain ⟨b,o,c,he,hbl,hlc,hcm,hcell⟩:=hr.out.1.at k hkl
      have he':=Value.slice.inj he
      obtain ⟨rfl,_,rfl⟩:=he'
      clear he
      have hcell:=(H.out.2.2.1.cell (p:=⟨b,o + k,none⟩) hbl).trans hcell
      have hz:=z4.out h.names[k] (List.getElem_mem _)
      have hmx:=suml_take (h.names.map ByteArray.size) k (by simpa using hkl)
      rw [List.getElem_map] at hmx
      have hmx':=hide hmx
      obtain ⟨s,hs⟩:∃ s,h.names[k]=s:=⟨_,rfl⟩
      simp only at hcell
      rw [hs] at hcell hz
      have hzi:(s.size:Int)≤281474976710656:=by omega
      have hs':=hide hs
      have hz':=hide hz
      clear hmx hs hz
      go_wp2_with fail
      refine ⟨⟨k + 1,p + s.size,by go_num,by go_num,by omega,?_⟩,by simp [intOf];omega⟩
      refine ⟨?_,by omega,H.out.2.2⟩
      rw [hmx'.out,hs'.out,H.out.1];omega
     ·go_wp2_with fail
      go_loopw [1,10] (fun u i w'=>∃ (k p:Nat),u=.int .i64 p∧i=.int .i64 k∧k≤l.length∧Hid ((p≤32768→p=q + suml (h.names.map ByteArray.size) + suml ((l.map (blk n)).take k))∧p≤4503599627370496∧Below w.heap.size w w'∧Bx w' w.heap.size h (.slice an h.names.length cn) (.slice al l.length cl))) (fun _ i _=>l.length - (intOf i).toNat)
      case atStart=>exact ⟨0,p,rfl,rfl,Nat.zero_le _,fun h=>by omega,H.out.2⟩
      case round =>
       clear H c7 c8 hp63
       obtain ⟨k2,p2,rfl,rfl,hk2,H⟩:=hrel
       obtain ⟨c0,c1,c2,c3,c4,c5,c6,c7,c8⟩:=H.out.2.2.2.cells
       clear c0 c1 c2 c3 c4 c5 c6
       have hp63:(p2:Int)≤4503599627370496:=by have:=H.out.2.1;omega
       by_cases hkl2:k2<l.length
       ·have hki2:(k2:Int)<(l.length:Int):=by omega
        have hk63:(k2:Int)<9223372036854775807:=by omega
        by_cases hp2:(p2:Int)≤32768
        ·obtain ⟨b,o,c,he,hbl,hlc,hcm,ns',ls',hrg,hrd⟩:=hr.out.at k2 hkl2
         have he':=Value.slice.inj he
         obtain ⟨rfl,_,rfl⟩:=he'
         clear he
         obtain ⟨q0,q1,q2,q3,q4,q5,q6,q7,q8⟩:=range9 (rangeAt_below hrg H.out.2.2.1 hbl)
         have hrd':=hide (hrd.below H.out.2.2.1)
         obtain ⟨a1,m1,d1,a2,m2,d2,rfl,rfl⟩:=hrd.shape
         clear hrg hrd
         have hmx:=suml_take (l.map (blk n)) k2 (by simpa using hkl2)
         rw [List.getElem_map] at hmx
         have hcall:=hide (ih'.out l[k2] (.slice a1 m1 d1) (.slice a2 m2 d2) wr p2 (d + 1) hrd'.out (z5.out _ (List.getElem_mem _)) (by omega) (by omega))
         have ed:((d + 1:Nat):Int)=(d:Int) + 1:=by omega
         rw [ed] at hcall
         have hmx':=hide hmx
         have hp2':=hide hp2
         clear hmx ed
         go_wp2_with (go_at_call 68;refine hcall.out.mono ?_;rintro e w1 ⟨p3,rfl,H3,hb1⟩)
         refine ⟨⟨k2 + 1,p3,rfl,by go_num,by omega,?_⟩,by simp [intOf];omega⟩
         refine ⟨fun h3=>?_,H3.out.2,below_then H.out.2.2.1 hb1,H.out.2.2.2.below hb1⟩
         have e3:=H3.out.1 h3
         have e2:=H.out.1 (by have:=hp2'.out;omega)
         have e4:=hmx'.out
         omega
        ·go_wp2_with fail
         go_ret
         exact ⟨p2,rfl,⟨fun h3=>by omega,H.out.2.1⟩,H.out.2.2.1⟩
       ·have hki2:¬ ((k2:Int)<(l.length:Int)):=by omega
        have hD2:m + blk (n + 1) (h,l)=q + suml (h.names.map ByteArray.size) + suml ((l.map (blk n)).take k2):=by
         rw [hD'.out,List.take_of_length_le (by simp;omega)]
        have hD3:=hide hD2
        clear hD2
        go_wp2_with fail
        go_ret
        exact ⟨p2,rfl,⟨fun h3=>by rw [hD3.out];exact H.out.1 h3,H.out.2.1⟩,H.out.2.2.1⟩
    ·have hki:¬ ((k:Int)<(h.names.length:Int)):=by omega
     go_wp2_with fail
     go_loopw [1,10] (fun u i w'=>∃ (k p:Nat),u=.int .i64 p∧i=.int .i64 k∧k≤l.length∧Hid ((p≤32768→p=q + suml (h.names.map ByteArray.size) + suml ((l.map (blk n)).take k))∧p≤4503599627370496∧Below w.heap.size w w'∧Bx w' w.heap.size h (.slice an h.names.length cn) (.slice al l.length cl))) (fun _ i _=>l.length - (intOf i).toNat)
     case atStart=>exact ⟨0,p,rfl,rfl,Nat.zero_le _,fun _=>by rw [H.out.1,List.take_of_length_le (by simp;omega)];simp [suml],H.out.2⟩
     case round =>
      clear H c7 c8 hp63
      obtain ⟨k2,p2,rfl,rfl,hk2,H⟩:=hrel
      obtain ⟨c0,c1,c2,c3,c4,c5,c6,c7,c8⟩:=H.out.2.2.2.cells
      clear c0 c1 c2 c3 c4 c5 c6
      have hp63:(p2:Int)≤4503599627370496:=by have:=H.out.2.1;omega
      by_cases hkl2:k2<l.length
      ·have hki2:(k2:Int)<(l.length:Int):=by omega
       have hk63:(k2:Int)<9223372036854775807:=by omega
       by_cases hp2:(p2:Int)≤32768
       ·obtain ⟨b,o,c,he,hbl,hlc,hcm,ns',ls',hrg,hrd⟩:=hr.out.at k2 hkl2
        have he':=Value.slice.inj he
        obtain ⟨rfl,_,rfl⟩:=he'
        clear he
        obtain ⟨q0,q1,q2,q3,q4,q5,q6,q7,q8⟩:=range9 (rangeAt_below hrg H.out.2.2.1 hbl)
        have hrd':=hide (hrd.below H.out.2.2.1)
        obtain ⟨a1,m1,d1,a2,m2,d2,rfl,rfl⟩:=hrd.shape
        clear hrg hrd
        have hmx:=suml_take (l.map (blk n)) k2 (by simpa using hkl2)
        rw [List.getElem_map] at hmx
        have hcall:=hide (ih'.out l[k2] (.slice a1 m1 d1) (.slice a2 m2 d2) wr p2 (d + 1) hrd'.out (z5.out _ (List.getElem_mem _)) (by omega) (by omega))
        have ed:((d + 1:Nat):Int)=(d:Int) + 1:=by omega
        rw [ed] at hcall
        have hmx':=hide hmx
        have hp2':=hide hp2
        clear hmx ed
        go_wp2_with (go_at_call 68;refine hcall.out.mono ?_;rintro e w1 ⟨p3,rfl,H3,hb1⟩)
        refine ⟨⟨k2 + 1,p3,rfl,by go_num,by omega,?_⟩,by simp [intOf];omega⟩
        refine ⟨fun h3=>?_,H3.out.2,below_then H.out.2.2.1 hb1,H.out.2.2.2.below hb1⟩
        have e3:=H3.out.1 h3
        have e2:=H.out.1 (by have:=hp2'.out;omega)
        have e4:=hmx'.out
        omega
       ·go_wp2_with fail
        go_ret
        exact ⟨p2,rfl,⟨fun h3=>by omega,H.out.2.1⟩,H.out.2.2.1⟩
      ·have hki2:¬ ((k2:Int)<(l.length:Int)):=by omega
       have hD2:m + blk (n + 1) (h,l)=q + suml (h.names.map ByteArray.size) + suml ((l.map (blk n)).take k2):=by
        rw [hD'.out,List.take_of_length_le (by simp;omega)]
       have hD3:=hide hD2
       clear hD2
       go_wp2_with fail
       go_ret
       exact ⟨p2,rfl,⟨fun h3=>by rw [hD3.out];exact H.out.1 h3,H.out.2.1⟩,H.out.2.2.1⟩
def eblk:(n:Nat)→ET n→Nat
 | 0,_=>0
 | n + 1,x=>1 + x.1.name.size + x.1.names.length + blk x.1.vn x.1.val + suml (x.1.names.map ByteArray.size) + suml (x.2.map (eblk n))
def ESz:(n:Nat)→ET n→Prop
 | 0,_=>True
 | n + 1,x=>x.1.name.size≤281474976710656∧x.1.names.length≤281474976710656∧(∀ s∈x.1.names,s.size≤281474976710656)∧Sz x.1.vn x.1.val∧∀ y∈x.2,ESz n y
theorem esiz_eblk:∀ (n:Nat) (x:ET n),esiz n x≤eblk n x
 | 0,x=>Empty.elim x
 | n + 1,x=>by
  simp only [esiz,eblk]
  have:suml (x.2.map (esiz n))≤suml (x.2.map (eblk n)):=by
   generalize x.2=l
   induction l with
   | nil=>exact Nat.le_refl _
   | cons a l ih=>simp only [List.map_cons,suml];have:=esiz_eblk n a;omega
  omega
theorem suml_mem {l:List Nat} {a:Nat} (h:a∈l):a≤suml l:=by
 induction l with
 | nil=>simp at h
 | cons b l ih =>
  simp only [suml]
  rcases List.mem_cons.1 h with rfl|h
  ·omega
  ·have:=ih h;omega
theorem eblk_ge:∀ (n:Nat) (x:ET n),ESz n x→eblk n x≤32768→GE n x
 | 0,x,_,_=>Empty.elim x
 | n + 1,x,h,hb=>by
  obtain ⟨h1,h2,h3,h4,h5⟩:=h
  have hs:=esiz_eblk (n + 1) x
  have hl:x.2.length≤suml (x.2.map (esiz n)):=suml_len (esiz n) (esiz_pos n) x.2
  have hz:=siz_blk x.1.vn x.1.val
  have hs':1 + suml (x.2.map (esiz n))≤eblk (n + 1) x:=hs
  simp only [eblk] at hb hs'
  refine ⟨⟨h1,by omega,h3,h4,by omega⟩,by omega,fun y hy=>eblk_ge n y (h5 y hy) ?_⟩
  have:=suml_mem (List.mem_map_of_mem (f:=eblk n) hy)
  omega
theorem w64 (n:Int) (h1:-9223372036854775808≤n) (h2:n≤9223372036854775807):wrap64 n=n:=by unfold wrap64;omega
theorem ex_at (w:World) (h:Eh) (q:Sl):Ex (w.alloc (.cells (ecl h q) 33)) w.heap.size h q:=⟨Array.getElem?_push_size⟩
set_option maxHeartbeats 2000000 in
set_option maxRecDepth 100000 in
theorem steps_any:∀ (n:Nat) (x:ET n) (q:Sl) (w:World) (m d:Nat),RE n w x q→ESz n x→m≤32768→d≤301 →
  Calls Tryz.prog 31 #[.agg (ecl (ehd n x) q),.int .i64 m,.int .i64 32768,.int .i64 d] w fun e w'=>∃ p:Nat,e=.returned (.int .i64 p)∧Hid ((p≤32768→p=m + eblk n x)∧p≤4503599627370496)∧Below w.heap.size w w':=by
 intro n
 induction n with
 | zero=>intro x;exact Empty.elim x
 | succ n ih =>
  intro x q w m d hr hz hm hd
  obtain ⟨h,l⟩:=x
  obtain ⟨al,cl,hle,hc1,hc2⟩:=hr.tl.len
  obtain ⟨an,cn,hne,hn1,hn2⟩:=hr.1.len
  obtain ⟨x1,y1,z1,x2,y2,z2,x3,y3,z3,x4,y4,z4,hqs⟩:=hr.shape
  subst hqs
  obtain ⟨rfl,rfl,rfl⟩:=Value.slice.inj hle
  obtain ⟨rfl,rfl,rfl⟩:=Value.slice.inj hne
  clear hle hne
  obtain ⟨w1',w2',w3',w4',z5⟩:=hz
  have hP:=hide (fun W (hb:Below w.heap.size w W) (m':Nat) (h':m'≤1125899906842624)=>partsE_any h.vn h.val (.slice x3 y3 z3) (.slice x4 y4 z4) W m' 0 (hr.2.1.below hb) w4' h' (by omega))
  have hr:=hide hr
  have ih':=hide ih
  have z4':=hide w3'
  have z5:=hide z5
  clear ih w3' w4'
  have hm1:(m:Int)≤32768:=by omega
  have e1:(h.name.size:Int)≤281474976710656:=by simp only at w1';omega
  have e3:(h.names.length:Int)≤281474976710656:=by simp only at w2';omega
  clear w1' w2'
  simp only at hn1 hn2 hc1 hc2
  have hB0:=hide (ex_at w h ⟨.slice x1 h.names.length z1,.slice x2 l.length z2,.slice x3 y3 z3,.slice x4 y4 z4⟩)
  obtain ⟨q0,hq0⟩:∃ q0:Nat,q0=m + 1 + h.name.size + h.names.length:=⟨_,rfl⟩
  have hq0i:(m:Int) + 1 + h.name.size + h.names.length=(q0:Int):=by omega
  have hq02:q0≤1125899906842624:=by omega
  have hq0w:wrap64 (wrap64 ((m:Int) + 1 + h.name.size) + h.names.length)=(q0:Int):=by
   have i1:wrap64 ((m:Int) + 1 + h.name.size)=(m:Int) + 1 + h.name.size:=w64 _ (by omega) (by omega)
   rw [i1,w64 _ (by omega) (by omega)]
   exact hq0i
  have hP0:=hide (fun W (hb:Below w.heap.size w W)=>hP.out W hb q0 hq02)
  obtain ⟨q,hq⟩:∃ q:Nat,q=q0 + blk h.vn h.val:=⟨_,rfl⟩
  have hD:m + eblk (n + 1) (h,l)=q + suml (h.names.map ByteArray.size) + suml (l.map (eblk n)):=by simp only [eblk];omega
  have hq':=hide hq
  have hD':=hide hD
  have hq0':=hide hq0
  clear hq hD hq0 hP
  have ml:maxLen=9223372036854775807:=rfl
  show Calls _ _ #[.agg (ecl h ⟨.slice x1 h.names.length z1,.slice x2 l.length z2,.slice x3 y3 z3,.slice x4 y4 z4⟩),.int .i64 m,.int .i64 32768,.int .i64 d] _ _
  unfold ecl at hB0 ⊢
  unfold vals at hP0
  simp only at hB0 hP0 ⊢
  obtain ⟨vv,hvv⟩:∃ vv,vhd h.vn h.val=vv:=⟨_,rfl⟩
  rw [hvv] at hP0 hB0 ⊢
  clear hvv
  by_cases hd3:(300:Int)<(d:Int)
  ·go_enter Tryz.func31, Tryz.ntmps31
   go_wp2_with fail
   go_ret
   exact ⟨32769,by first|rfl|simp,⟨fun h=>by omega,by omega⟩,by first|exact below_al (Below.refl _ _)|exact Below.refl _ _⟩
  ·go_enter Tryz.func31, Tryz.ntmps31
   go_wp2_with fail
   refine (hP0.out _ (by first|exact below_al (Below.refl _ _)|exact below_dr (below_al (Below.refl _ _)))).mono ?_
   rintro e w1 ⟨P,rfl,HP,hb1⟩
   have X1:=hide (hB0.out.below hb1)
   have hb2:=hide (below_then (below_al (Below.refl _ _)) hb1)
   clear hb1
   go_wp2_with fail
   go_loopw [1,9] (fun u i w'=>∃ (k p:Nat),u=.int .i64 p∧i=.int .i64 k∧k≤h.names.length∧Hid ((p≤32768→p=q + suml ((h.names.map ByteArray.size).take k))∧p≤4503599627370496∧Below w.heap.size w w'∧Ex w' w.heap.size h ⟨.slice x1 h.names.length z1,.slice x2 l.length z2,.slice x3 y3 z3,.slice x4 y4 z4⟩)) (fun _ i _=>h.names.length - (intOf i).toNat)
   case atStart=>exact ⟨0,P,rfl,rfl,Nat.zero_le _,⟨fun h=>by have:=HP.out.1 h;have:=hq'.out;simp [suml];omega,HP.out.2,hb2.out,X1.out⟩⟩
   case round =>
    obtain ⟨k,p,rfl,rfl,hk,H⟩:=hrel
    obtain ⟨c0,c1,c2,c3,c4⟩:=H.out.2.2.2.cells
    clear c0 c1 c4
    have hp63:(p:Int)≤4503599627370496:=by have:=H.out.2.1;omega
    by_cases hkl:k<h.names.length
    ·have hki:(k:Int)<(h.names.length:Int):=by omega
     by_cases hp:(p:Int)≤32768
     ·obtain ⟨b,o,c,he,hbl,hlc,hcm,hcell⟩:=hr.out.1.at k hkl
      have he':=Value.slice.inj he
      obtain ⟨rfl,_,rfl⟩:=he'
      clear he
      have hcell:=(H.out.2.2.1.cell (p:=⟨b,o + k,none⟩) hbl).trans hcell
      have hz:=z4'.out h.names[k] (List.getElem_mem _)
      have hmx:=suml_take (h.names.map ByteArray.size) k (by simpa using hkl)
      rw [List.getElem_map] at hmx
      have hmx':=hide hmx
      obtain ⟨s,hs⟩:∃ s,h.names[k]=s:=⟨_,rfl⟩
      simp only at hcell
      rw [hs] at hcell hz
      have hzi:(s.size:Int)≤281474976710656:=by omega
      have hs':=hide hs
      have hz':=hide hz
      clear hmx hs hz
      go_wp2_with fail
      refine ⟨⟨k + 1,p + s.size,by go_num,by go_num,by omega,?_⟩,by simp [intOf];omega⟩
      refine ⟨fun h3=>?_,by omega,H.out.2.2⟩
      rw [hmx'.out,hs'.out]
      have:=H.out.1 (by omega)
      omega
     ·go_wp2_with fail
      go_loopw [1,10] (fun u i w'=>∃ (k p:Nat),u=.int .i64 p∧i=.int .i64 k∧k≤l.length∧Hid ((p≤32768→p=q + suml (h.names.map ByteArray.size) + suml ((l.map (eblk n)).take k))∧p≤4503599627370496∧Below w.heap.size w w'∧Ex w' w.heap.size h ⟨.slice x1 h.names.length z1,.slice x2 l.length z2,.slice x3 y3 z3,.slice x4 y4 z4⟩)) (fun _ i _=>l.length - (intOf i).toNat)
      case atStart=>exact ⟨0,p,rfl,rfl,Nat.zero_le _,fun h=>by omega,H.out.2⟩
      case round =>
       clear H c2 c3 hp63
       obtain ⟨k2,p2,rfl,rfl,hk2,H⟩:=hrel
       obtain ⟨c0,c1,c2,c3,c4⟩:=H.out.2.2.2.cells
       clear c0 c1 c4
       have hp63:(p2:Int)≤4503599627370496:=by have:=H.out.2.1;omega
       by_cases hkl2:k2<l.length
       ·have hki2:(k2:Int)<(l.length:Int):=by omega
        have hk63:(k2:Int)<9223372036854775807:=by omega
        by_cases hp2:(p2:Int)≤32768
        ·obtain ⟨b,o,c,he,hbl,hlc,hcm,q',hrg,hrd⟩:=hr.out.tl.at k2 hkl2
         have he':=Value.slice.inj he
         obtain ⟨rfl,_,rfl⟩:=he'
         clear he
         have r0:=range13 (rangeAt_below hrg H.out.2.2.1 hbl)
         have hrd':=hide (hrd.below H.out.2.2.1)
         obtain ⟨a1,m1,d1,a2,m2,d2,a3,m3,d3,a4,m4,d4,rfl⟩:=hrd.shape
         clear hrg hrd
         have hmx:=suml_take (l.map (eblk n)) k2 (by simpa using hkl2)
         rw [List.getElem_map] at hmx
         have hcall:=hide (ih'.out l[k2] ⟨.slice a1 m1 d1,.slice a2 m2 d2,.slice a3 m3 d3,.slice a4 m4 d4⟩ wr p2 (d + 1) hrd'.out (z5.out _ (List.getElem_mem _)) (by omega) (by omega))
         have ed:((d + 1:Nat):Int)=(d:Int) + 1:=by omega
         rw [ed] at hcall
         obtain ⟨y,hy⟩:∃ y,ehd n l[k2]=y:=⟨_,rfl⟩
         simp only at r0
         rw [hy] at hcall r0
         unfold ecl at hcall
         simp only at hcall
         have hmx':=hide hmx
         have hp2':=hide hp2
         clear hmx ed hy
         go_wp2_with (go_at_call 31;refine hcall.out.mono ?_;rintro e w1 ⟨p3,rfl,H3,hb1⟩)
         refine ⟨⟨k2 + 1,p3,rfl,by go_num,by omega,?_⟩,by simp [intOf];omega⟩
         refine ⟨fun h3=>?_,H3.out.2,below_then H.out.2.2.1 hb1,H.out.2.2.2.below hb1⟩
         have e3:=H3.out.1 h3
         have e2:=H.out.1 (by have:=hp2'.out;omega)
         have e4:=hmx'.out
         omega
        ·go_wp2_with fail
         go_ret
         exact ⟨p2,rfl,⟨fun h3=>by omega,H.out.2.1⟩,H.out.2.2.1⟩
       ·have hki2:¬ ((k2:Int)<(l.length:Int)):=by omega
        have hD2:m + eblk (n + 1) (h,l)=q + suml (h.names.map ByteArray.size) + suml ((l.map (eblk n)).take k2):=by
         rw [hD'.out,List.take_of_length_le (by simp;omega)]
        have hD3:=hide hD2
        clear hD2
        go_wp2_with fail
        go_ret
        exact ⟨p2,rfl,⟨fun h3=>by rw [hD3.out];exact H.out.1 h3,H.out.2.1⟩,H.out.2.2.1⟩
    ·have hki:¬ ((k:Int)<(h.names.length:Int)):=by omega
     go_wp2_with fail
     go_loopw [1,10] (fun u i w'=>∃ (k p:Nat),u=.int .i64 p∧i=.int .i64 k∧k≤l.length∧Hid ((p≤32768→p=q + suml (h.names.map ByteArray.size) + suml ((l.map (eblk n)).take k))∧p≤4503599627370496∧Below w.heap.size w w'∧Ex w' w.heap.size h ⟨.slice x1 h.names.length z1,.slice x2 l.length z2,.slice x3 y3 z3,.slice x4 y4 z4⟩)) (fun _ i _=>l.length - (intOf i).toNat)
     case atStart=>exact ⟨0,p,rfl,rfl,Nat.zero_le _,fun h3=>by rw [H.out.1 h3,List.take_of_length_le (by simp;omega)];simp [suml],H.out.2⟩
     case round =>
      clear H c2 c3 hp63
      obtain ⟨k2,p2,rfl,rfl,hk2,H⟩:=hrel
      obtain ⟨c0,c1,c2,c3,c4⟩:=H.out.2.2.2.cells
      clear c0 c1 c4
      have hp63:(p2:Int)≤4503599627370496:=by have:=H.out.2.1;omega
      by_cases hkl2:k2<l.length
      ·have hki2:(k2:Int)<(l.length:Int):=by omega
       have hk63:(k2:Int)<9223372036854775807:=by omega
       by_cases hp2:(p2:Int)≤32768
       ·obtain ⟨b,o,c,he,hbl,hlc,hcm,q',hrg,hrd⟩:=hr.out.tl.at k2 hkl2
        have he':=Value.slice.inj he
        obtain ⟨rfl,_,rfl⟩:=he'
        clear he
        have r0:=range13 (rangeAt_below hrg H.out.2.2.1 hbl)
        have hrd':=hide (hrd.below H.out.2.2.1)
        obtain ⟨a1,m1,d1,a2,m2,d2,a3,m3,d3,a4,m4,d4,rfl⟩:=hrd.shape
        clear hrg hrd
        have hmx:=suml_take (l.map (eblk n)) k2 (by simpa using hkl2)
        rw [List.getElem_map] at hmx
        have hcall:=hide (ih'.out l[k2] ⟨.slice a1 m1 d1,.slice a2 m2 d2,.slice a3 m3 d3,.slice a4 m4 d4⟩ wr p2 (d + 1) hrd'.out (z5.out _ (List.getElem_mem _)) (by omega) (by omega))
        have ed:((d + 1:Nat):Int)=(d:Int) + 1:=by omega
        rw [ed] at hcall
        obtain ⟨y,hy⟩:∃ y,ehd n l[k2]=y:=⟨_,rfl⟩
        simp only at r0
        rw [hy] at hcall r0
        unfold ecl at hcall
        simp only at hcall
        have hmx':=hide hmx
        have hp2':=hide hp2
        clear hmx ed hy
        go_wp2_with (go_at_call 31;refine hcall.out.mono ?_;rintro e w1 ⟨p3,rfl,H3,hb1⟩)
        refine ⟨⟨k2 + 1,p3,rfl,by go_num,by omega,?_⟩,by simp [intOf];omega⟩
        refine ⟨fun h3=>?_,H3.out.2,below_then H.out.2.2.1 hb1,H.out.2.2.2.below hb1⟩
        have e3:=H3.out.1 h3
        have e2:=H.out.1 (by have:=hp2'.out;omega)
        have e4:=hmx'.out
        omega
       ·go_wp2_with fail
        go_ret
        exact ⟨p2,rfl,⟨fun h3=>by omega,H.out.2.1⟩,H.out.2.2.1⟩
      ·have hki2:¬ ((k2:Int)<(l.length:Int)):=by omega
       have hD2:m + eblk (n + 1) (h,l)=q + suml (h.names.map ByteArray.size) + suml ((l.map (eblk n)).take k2):=by
        rw [hD'.out,List.take_of_length_le (by simp;omega)]
       have hD3:=hide hD2
       clear hD2
       go_wp2_with fail
       go_ret
       exact ⟨p2,rfl,⟨fun h3=>by rw [hD3.out];exact H.out.1 h3,H.out.2.1⟩,H.out.2.2.1⟩
def brd:(n:Nat)→ET n→Bool
 | 0,_=>false
 | n + 1,x=>decide (1000<x.1.names.length) || mny x.1.vn x.1.val || x.2.any (brd n)
set_option maxHeartbeats 2000000 in
set_option maxRecDepth 100000 in
theorem broad_any:∀ (n:Nat) (x:ET n) (q:Sl) (w:World),RE n w x q →
  Calls Tryz.prog 32 #[.agg (ecl (ehd n x) q)] w fun e w'=>e=.returned (.bool (brd n x))∧Below w.heap.size w w':=by
 intro n
 induction n with
 | zero=>intro x;exact Empty.elim x
 | succ n ih =>
  intro x q w hr
  obtain ⟨h,l⟩:=x
  obtain ⟨al,cl,hle,hc1,hc2⟩:=hr.tl.len
  obtain ⟨an,cn,hne,hn1,hn2⟩:=hr.1.len
  obtain ⟨x1,y1,z1,x2,y2,z2,x3,y3,z3,x4,y4,z4,hqs⟩:=hr.shape
  subst hqs
  obtain ⟨rfl,rfl,rfl⟩:=Value.slice.inj hle
  obtain ⟨rfl,rfl,rfl⟩:=Value.slice.inj hne
  clear hle hne
  have hM:=hide (fun W (hb:Below w.heap.size w W)=>many_any h.vn h.val (.slice x3 y3 z3) (.slice x4 y4 z4) W (hr.2.1.below hb))
  have hr:=hide hr
  have ih':=hide ih
  clear ih
  simp only at hn1 hn2 hc1 hc2
  have ml:maxLen=9223372036854775807:=rfl
  have hB0:=hide (ex_at w h ⟨.slice x1 h.names.length z1,.slice x2 l.length z2,.slice x3 y3 z3,.slice x4 y4 z4⟩)
  have hb0:=hide (below_al (o:=.cells (ecl h ⟨.slice x1 h.names.length z1,.slice x2 l.length z2,.slice x3 y3 z3,.slice x4 y4 z4⟩) 33) (Below.refl w.heap.size w))
  have hM0:=hide (hM.out _ hb0.out)
  have c0:=hB0.out.cells
  clear hM
  show Calls _ _ #[.agg (ecl h ⟨.slice x1 h.names.length z1,.slice x2 l.length z2,.slice x3 y3 z3,.slice x4 y4 z4⟩)] _ _
  unfold vals at hM0
  unfold ecl at hb0 ⊢
  simp only at hM0 hb0 c0 ⊢
  by_cases h2:(1000:Int)<(h.names.length:Int)
  ·have hD:brd (n + 1) (h,l)=true:=by simp only [brd];rw [decide_eq_true (by omega)];rfl
   have hD':=hide hD
   clear hD
   go_enter Tryz.func32, Tryz.ntmps32
   go_wp2_with fail
   go_ret
   exact ⟨by rw [hD'.out];rfl,hb0.out⟩
  ·have hD:brd (n + 1) (h,l)=(mny h.vn h.val || l.any (brd n)):=by simp only [brd];rw [decide_eq_false (by omega)];rfl
   have hD':=hide hD
   clear hD
   cases hm:mny h.vn h.val
   ·rw [hm] at hM0 hD'
    go_enter Tryz.func32, Tryz.ntmps32
    go_wp2_with (go_at_call 69;refine hM0.out.mono ?_;rintro e w1 ⟨rfl,hb1⟩)
    go_loopw [3] (fun i w'=>∃ k:Nat,i=.int .i64 k∧k≤l.length∧Hid ((l.take k).any (brd n)=false∧Below w.heap.size w w'∧Ex w' w.heap.size h ⟨.slice x1 h.names.length z1,.slice x2 l.length z2,.slice x3 y3 z3,.slice x4 y4 z4⟩)) (fun i _=>l.length - (intOf i).toNat)
    case atStart=>exact ⟨0,rfl,Nat.zero_le _,rfl,below_then hb0.out hb1,hB0.out.below hb1⟩
    case round =>
     obtain ⟨k,rfl,hk,H⟩:=hrel
     obtain ⟨_,_,c2,c3,_⟩:=H.out.2.2.cells
     by_cases hkl:k<l.length
     ·have hki:(k:Int)<(l.length:Int):=by omega
      have hk63:(k:Int)<9223372036854775807:=by omega
      obtain ⟨b,o,c,he,hbl,hlc,hcm,q',hrg,hrd⟩:=hr.out.tl.at k hkl
      have he':=Value.slice.inj he
      obtain ⟨rfl,_,rfl⟩:=he'
      clear he
      have r0:=range13 (rangeAt_below hrg H.out.2.1 hbl)
      have hrd':=hide (hrd.below H.out.2.1)
      obtain ⟨a1,m1,d1,a2,m2,d2,a3,m3,d3,a4,m4,d4,rfl⟩:=hrd.shape
      clear hrg hrd
      have hcall:=hide (ih'.out l[k] ⟨.slice a1 m1 d1,.slice a2 m2 d2,.slice a3 m3 d3,.slice a4 m4 d4⟩ wr hrd'.out)
      have hbk:Hid (l[k]=l[k]):=rfl
      obtain ⟨bb,hbb⟩:∃ b,brd n l[k]=b:=⟨_,rfl⟩
      rw [hbb] at hcall
      have hbb':=hide hbb
      obtain ⟨y,hy⟩:∃ y,ehd n l[k]=y:=⟨_,rfl⟩
      simp only at r0
      rw [hy] at hcall r0
      unfold ecl at hcall
      simp only at hcall
      clear hy hbb
      cases bb
      ·go_wp2_with (go_at_call 32;refine hcall.out.mono ?_;rintro e w1 ⟨rfl,hb1⟩)
       refine ⟨⟨k + 1,by go_num,by omega,?_,below_then H.out.2.1 hb1,H.out.2.2.below hb1⟩,by simp [intOf];omega⟩
       rw [List.take_succ_eq_append_getElem hkl,List.any_append,H.out.1]
       have:=hbb'.out
       simp only [List.any_cons,List.any_nil,Bool.or_false,Bool.false_or]
       exact this
      ·go_wp2_with (go_at_call 32;refine hcall.out.mono ?_;rintro e w1 ⟨rfl,hb1⟩)
       go_ret
       exact ⟨by rw [hD'.out,any_at hkl hbb'.out];rfl,below_then H.out.2.1 hb1⟩
     ·have hki:¬ ((k:Int)<(l.length:Int)):=by omega
      have hE:=H.out.1
      rw [List.take_of_length_le (by omega)] at hE
      have hE':=hide hE
      clear hE
      go_wp2_with fail
      go_ret
      exact ⟨by rw [hD'.out,hE'.out];rfl,H.out.2.1⟩
   ·rw [hm] at hM0 hD'
    go_enter Tryz.func32, Tryz.ntmps32
    go_wp2_with (go_at_call 69;refine hM0.out.mono ?_;rintro e w1 ⟨rfl,hb1⟩)
    go_ret
    exact ⟨by rw [hD'.out];rfl,below_then hb0.out hb1⟩
set_option maxHeartbeats 2000000 in
set_option maxRecDepth 100000 in
theorem bige_any (n:Nat) (x:ET n) (q:Sl) (w:World) (hr:RE n w x q) (hz:ESz n x) :
  Calls Tryz.prog 13 #[.agg (ecl (ehd n x) q)] w fun e w'=>∃ b,e=.returned (.bool b)∧Hid (b=false→eblk n x≤32768∧brd n x=false)∧Below w.heap.size w w':=by
 obtain ⟨x1,y1,z1,x2,y2,z2,x3,y3,z3,x4,y4,z4,hqs⟩:=hr.shape
 subst hqs
 obtain ⟨h,hh⟩:∃ h,ehd n x=h:=⟨_,rfl⟩
 have hP:=hide (fun o=>steps_any n x ⟨.slice x1 y1 z1,.slice x2 y2 z2,.slice x3 y3 z3,.slice x4 y4 z4⟩ (w.alloc o) 0 0 (hr.below (below_al (Below.refl _ _))) hz (by omega) (by omega))
 have hM:=hide (fun W (hb:Below w.heap.size w W)=>broad_any n x ⟨.slice x1 y1 z1,.slice x2 y2 z2,.slice x3 y3 z3,.slice x4 y4 z4⟩ W (hr.below hb))
 have hB0:=hide (ex_at w h ⟨.slice x1 y1 z1,.slice x2 y2 z2,.slice x3 y3 z3,.slice x4 y4 z4⟩)
 have hb0:=hide (below_al (o:=.cells (ecl h ⟨.slice x1 y1 z1,.slice x2 y2 z2,.slice x3 y3 z3,.slice x4 y4 z4⟩) 33) (Below.refl w.heap.size w))
 rw [hh] at hP hM ⊢
 have c0:=hB0.out.cells
 clear hr hz hh
 unfold ecl at hP hM hb0 ⊢
 simp only at hP hM hb0 c0 ⊢
 go_enter Tryz.func13, Tryz.ntmps13
 go_wp2_with fail
 refine (hP.out _).mono ?_
 rintro e w1 ⟨p,rfl,H,hb1⟩
 have hb2:=hide (below_then hb0.out hb1)
 have c1:=(hB0.out.below hb1).cells
 simp only at c1
 have hcall:=hide (hM.out w1 hb2.out)
 by_cases hp:(32768:Int)<(p:Int)
 ·go_wp2_with (go_at_call 32;refine hcall.out.mono ?_;rintro e w2 ⟨rfl,hb3⟩)
  go_ret
  exact ⟨true,rfl,(fun h=>by cases h),hb2.out⟩
 ·obtain ⟨bb,hbb⟩:∃ b,brd n x=b:=⟨_,rfl⟩
  rw [hbb] at hcall
  have hbb':=hide hbb
  clear hbb
  cases bb
  ·go_wp2_with (go_at_call 32;refine hcall.out.mono ?_;rintro e w2 ⟨rfl,hb3⟩)
   go_ret
   exact ⟨false,ret_bool (decide_eq_false (by omega)),(fun h=>⟨by have:=H.out.1 (by omega);omega,hbb'.out⟩),below_then hb2.out hb3⟩
  ·go_wp2_with (go_at_call 32;refine hcall.out.mono ?_;rintro e w2 ⟨rfl,hb3⟩)
   go_ret
   exact ⟨true,rfl,(fun h=>by cases h),below_then hb2.out hb3⟩
end Lx
end Go.Proofs.YtcnfchblfcfimaaGreatDoor
