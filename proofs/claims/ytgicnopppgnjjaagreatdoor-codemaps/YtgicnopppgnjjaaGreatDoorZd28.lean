/- Merged by program: VwSize, VxBare, VyBare, VzEvery, CoProg. -/
import Derived.Test.YtgicnopppgnjjaaGreatDoorZd27
import Derived.Test.YtgicnopppgnjjaaGreatDoorZd09
set_option linter.unusedSimpArgs false
set_option linter.unusedVariables false
namespace Go.Proofs.YtgicnopppgnjjaaGreatDoor
namespace Lx
open Go.RowKit
def edep:(n:Nat)→ET n→Nat
 | 0,_=>0
 | n + 1,x=>1 + mxl (x.2.map (edep n))
def esiz:(n:Nat)→ET n→Nat
 | 0,_=>0
 | n + 1,x=>1 + suml (x.2.map (esiz n))
theorem edep_le:∀ (n:Nat) (x:ET n),edep n x≤esiz n x
 | 0,x=>Empty.elim x
 | n + 1,x=>by
  simp only [edep,esiz]
  have:=mxl_le (l:=x.2.map (edep n)) (m:=x.2.map (esiz n)) (fun i h1 h2=>by simp only [List.getElem_map];exact edep_le n _) (by simp)
  omega
theorem esiz_mem {n:Nat} {x:ET (n + 1)} {i:Nat} (h:i<x.2.length):esiz n x.2[i]<esiz (n + 1) x:=by
 have:=suml_mem (l:=x.2.map (esiz n)) (i:=i) (by simpa using h)
 simp only [List.getElem_map] at this
 simp only [esiz];omega
set_option maxHeartbeats 1000000 in
set_option maxRecDepth 100000 in
theorem edepth_any:∀ (n:Nat) (x:ET n) (q:Sl) (w:World),RE n w x q→esiz n x≤200000 →
  Calls Tryz.prog 77 #[.agg (ecl (ehd n x) q)] w fun e w'=>e=.returned (.int .i64 (edep n x))∧Below w.heap.size w w':=by
 intro n
 induction n with
 | zero=>intro x;exact Empty.elim x
 | succ n ih =>
  intro x q w hr hs
  obtain ⟨h,l⟩:=x
  obtain ⟨al,cl,hle,hc1,hc2⟩:=hr.tl.len
  obtain ⟨x1,y1,z1,x2,y2,z2,x3,y3,z3,x4,y4,z4,hqs⟩:=hr.shape
  subst hqs
  obtain ⟨rfl,rfl,rfl⟩:=Value.slice.inj hle
  clear hle
  have hr:=hide hr
  have ih':=hide ih
  have hs':=hide hs
  clear ih hs
  show Calls _ _ #[.agg #[.int .i64 h.op,.string h.name,.slice x1 y1 z1,.slice x2 l.length z2,.int .i64 (vhd h.vn h.val).kind,.bool (vhd h.vn h.val).flag,.bool (vhd h.vn h.val).neg,.string (vhd h.vn h.val).dig,.int .i64 (vhd h.vn h.val).exp,.int .u64 (vhd h.vn h.val).bits,.string (vhd h.vn h.val).text,.slice x3 y3 z3,.slice x4 y4 z4]] _ _
  go_enter Tryz.func77, Tryz.ntmps77
  go_wp2_with fail
  go_loopw [3,9] (fun m i w'=>∃ k:Nat,m=.int .i64 (mxl ((l.map (edep n)).take k):Nat)∧i=.int .i64 k∧k≤l.length∧Hid (Below w.heap.size w w')) (fun _ i _=>l.length - (intOf i).toNat)
  case atStart=>exact ⟨0,rfl,rfl,Nat.zero_le _,below_al (Below.refl _ _)⟩
  case round =>
   obtain ⟨k,rfl,rfl,hk,hb⟩:=hrel
   have ml:maxLen=9223372036854775807:=rfl
   have hk63:(k:Int)≤9223372036854775807:=by omega
   by_cases hkl:k<l.length
   ·obtain ⟨b,o,c,he,hbl,hlc,hcm,q',hrg,hrd⟩:=hr.out.tl.at k hkl
    have he':=Value.slice.inj he
    obtain ⟨rfl,_,rfl⟩:=he'
    clear he
    have hki:(k:Int)<(l.length:Int):=by omega
    have hk63:(k:Int)<9223372036854775807:=by omega
    have hrg2:=rangeAt_below hrg hb.out hbl
    obtain ⟨u1,v1,w1,u2,v2,w2,u3,v3,w3,u4,v4,w4,hqs⟩:=hrd.shape
    subst hqs
    have c0:=range13 hrg2
    clear hrg2
    have hrd':=hide (hrd.below hb.out)
    clear hrg hrd
    have hsk:esiz n l[k]≤200000:=by have h1:=esiz_mem (x:=(h,l)) hkl;have h2:=hs'.out;simp only at h1;omega
    obtain ⟨D,hD⟩:∃ D,edep n l[k]=D:=⟨_,rfl⟩
    have hmx:=mxl_take (l.map (edep n)) k (by simpa using hkl)
    rw [List.getElem_map,hD] at hmx
    have hcall:=hide (fun o=>ih'.out l[k] ⟨.slice u1 v1 w1,.slice u2 v2 w2,.slice u3 v3 w3,.slice u4 v4 w4⟩ (wr.alloc o) (hrd'.out.below (below_al (Below.refl _ _))) hsk)
    rw [hD] at hcall
    obtain ⟨M,hM⟩:∃ M,mxl ((l.map (edep n)).take k)=M:=⟨_,rfl⟩
    rw [hM] at hmx ⊢
    have hmx':=hide hmx
    have hD':=hide hD
    have hM':=hide hM
    clear hD hM hsk hmx
    rcases Nat.lt_trichotomy M D with hlt|hlt|hlt
    ·have hdi:(M:Int)<(D:Int):=by omega
     have hdj:¬ ((D:Int)<(M:Int)):=by omega
     go_wp2_with (go_at_call 77;refine (hcall.out _).mono ?_;rintro e w1 ⟨rfl,hb1⟩)
     exact ⟨⟨k + 1,by rw [hmx'.out];congr 2;omega,by go_num,by omega,below_then (below_al hb.out) hb1⟩,by simp [intOf];omega⟩
    ·subst hlt
     have hdi:¬ ((M:Int)<(M:Int)):=by omega
     go_wp2_with (go_at_call 77;refine (hcall.out _).mono ?_;rintro e w1 ⟨rfl,hb1⟩)
     exact ⟨⟨k + 1,by rw [hmx'.out];congr 2;omega,by go_num,by omega,below_then (below_al hb.out) hb1⟩,by simp [intOf];omega⟩
    ·have hdi:(D:Int)<(M:Int):=by omega
     have hdj:¬ ((M:Int)<(D:Int)):=by omega
     go_wp2_with (go_at_call 77;refine (hcall.out _).mono ?_;rintro e w1 ⟨rfl,hb1⟩)
     exact ⟨⟨k + 1,by rw [hmx'.out];congr 2;omega,by go_num,by omega,below_then (below_al hb.out) hb1⟩,by simp [intOf];omega⟩
   ·have hki:¬ ((k:Int)<(l.length:Int)):=by omega
    have hkl2:k=l.length:=by omega
    have hD:edep (n + 1) (h,l)=1 + mxl ((l.map (edep n)).take k):=by
     simp only [edep]
     rw [List.take_of_length_le (by simp;omega)]
    have hsz:1 + mxl ((l.map (edep n)).take k)≤200000:=by
     rw [←hD];exact Nat.le_trans (edep_le _ _) hs'.out
    obtain ⟨M,hM⟩:∃ M,mxl ((l.map (edep n)).take k)=M:=⟨_,rfl⟩
    rw [hM] at hsz hD ⊢
    have hD':=hide hD
    clear hD hM hkl2
    have hM2:(M:Int)<200000:=by omega
    clear hsz
    go_wp2_with fail
    go_ret
    exact ⟨by rw [hD'.out];exact ret_int (by omega),hb.out⟩
set_option maxHeartbeats 1000000 in
set_option maxRecDepth 100000 in
theorem esize_any:∀ (n:Nat) (x:ET n) (q:Sl) (w:World),RE n w x q→esiz n x≤200000 →
  Calls Tryz.prog 78 #[.agg (ecl (ehd n x) q)] w fun e w'=>e=.returned (.int .i64 (esiz n x))∧Below w.heap.size w w':=by
 intro n
 induction n with
 | zero=>intro x;exact Empty.elim x
 | succ n ih =>
  intro x q w hr hs
  obtain ⟨h,l⟩:=x
  obtain ⟨al,cl,hle,hc1,hc2⟩:=hr.tl.len
  obtain ⟨x1,y1,z1,x2,y2,z2,x3,y3,z3,x4,y4,z4,hqs⟩:=hr.shape
  subst hqs
  obtain ⟨rfl,rfl,rfl⟩:=Value.slice.inj hle
  clear hle
  have hr:=hide hr
  have ih':=hide ih
  have hs':=hide hs
  clear ih hs
  show Calls _ _ #[.agg #[.int .i64 h.op,.string h.name,.slice x1 y1 z1,.slice x2 l.length z2,.int .i64 (vhd h.vn h.val).kind,.bool (vhd h.vn h.val).flag,.bool (vhd h.vn h.val).neg,.string (vhd h.vn h.val).dig,.int .i64 (vhd h.vn h.val).exp,.int .u64 (vhd h.vn h.val).bits,.string (vhd h.vn h.val).text,.slice x3 y3 z3,.slice x4 y4 z4]] _ _
  go_enter Tryz.func78, Tryz.ntmps78
  go_wp2_with fail
  go_loopw [3,9] (fun m i w'=>∃ k:Nat,m=.int .i64 (1 + suml ((l.map (esiz n)).take k):Nat)∧i=.int .i64 k∧k≤l.length∧Hid (Below w.heap.size w w')) (fun _ i _=>l.length - (intOf i).toNat)
  case atStart=>exact ⟨0,rfl,rfl,Nat.zero_le _,below_al (Below.refl _ _)⟩
  case round =>
   obtain ⟨k,rfl,rfl,hk,hb⟩:=hrel
   have ml:maxLen=9223372036854775807:=rfl
   have hk63:(k:Int)≤9223372036854775807:=by omega
   obtain ⟨M,hM⟩:∃ M,1 + suml ((l.map (esiz n)).take k)=M:=⟨_,rfl⟩
   have hMle:M≤200000:=by
    have h1:=suml_take_le (l.map (esiz n)) k
    have h2:=hs'.out
    simp only [esiz] at h2
    omega
   by_cases hkl:k<l.length
   ·obtain ⟨b,o,c,he,hbl,hlc,hcm,q',hrg,hrd⟩:=hr.out.tl.at k hkl
    have he':=Value.slice.inj he
    obtain ⟨rfl,_,rfl⟩:=he'
    clear he
    have hki:(k:Int)<(l.length:Int):=by omega
    have hk63:(k:Int)<9223372036854775807:=by omega
    have hrg2:=rangeAt_below hrg hb.out hbl
    obtain ⟨u1,v1,w1,u2,v2,w2,u3,v3,w3,u4,v4,w4,hqs⟩:=hrd.shape
    subst hqs
    have c0:=range13 hrg2
    clear hrg2
    have hrd':=hide (hrd.below hb.out)
    clear hrg hrd
    have hsk:esiz n l[k]≤200000:=by have h1:=esiz_mem (x:=(h,l)) hkl;have h2:=hs'.out;simp only at h1;omega
    obtain ⟨D,hD⟩:∃ D,esiz n l[k]=D:=⟨_,rfl⟩
    have hmx:=suml_take (l.map (esiz n)) k (by simpa using hkl)
    rw [List.getElem_map,hD] at hmx
    have hcall:=hide (fun o=>ih'.out l[k] ⟨.slice u1 v1 w1,.slice u2 v2 w2,.slice u3 v3 w3,.slice u4 v4 w4⟩ (wr.alloc o) (hrd'.out.below (below_al (Below.refl _ _))) hsk)
    rw [hD] at hcall hsk
    have hmx:1 + suml ((l.map (esiz n)).take (k + 1))=M + D:=by omega
    rw [hM]
    have hmx':=hide hmx
    have hD1:(D:Int)≤200000:=by omega
    have hM1:(M:Int)≤200000:=by omega
    clear hD hM hsk hmx hMle
    go_wp2_with (go_at_call 78;refine (hcall.out _).mono ?_;rintro e w1 ⟨rfl,hb1⟩)
    exact ⟨⟨k + 1,by rw [hmx'.out];first|rfl|(congr 1),by go_num,by omega,below_then (below_al hb.out) hb1⟩,by simp [intOf];omega⟩
   ·have hki:¬ ((k:Int)<(l.length:Int)):=by omega
    have hD:esiz (n + 1) (h,l)=M:=by
     rw [←hM]
     simp only [esiz]
     rw [List.take_of_length_le (by simp;omega)]
    rw [hM]
    have hD':=hide hD
    clear hD hM hMle
    go_wp2_with fail
    go_ret
    exact ⟨by rw [hD'.out];rfl,hb.out⟩
end Lx
end Go.Proofs.YtgicnopppgnjjaaGreatDoor
namespace Go.Proofs.YtgicnopppgnjjaaGreatDoor
namespace Lx
open Go.RowKit
def VZ:(n:Nat)→VT n→Prop
 | 0,_=>False
 | _ + 1,v=>v=(zr 0,[])
theorem tl0 {a:ByteArray} (h:¬ a=⟨#[]⟩):¬ a.toList=[]:=by
 intro e
 apply h
 have:a.data.toList=[]:=by rw [←ByteArray.toList_eq];exact e
 exact ByteArray.ext (Array.toList_inj.1 (by simpa using this))
set_option maxHeartbeats 4000000 in
set_option maxRecDepth 100000 in
theorem bare_nslv (k:Int) (hk:k=1∨k=8∨k=9∨k=10∨k=11) (n m:Nat) (nm:ByteArray) (nms:List ByteArray) (vh:Hd) (vl:List (VT m)) (l:List (ET n)) (q:Sl) (w:World) (hr:RE (n + 1) w (⟨k,nm,nms,m + 1,(vh,vl)⟩,l) q) :
  Calls Tryz.prog 74 #[.agg (ecl ⟨k,nm,nms,m + 1,(vh,vl)⟩ q)] w fun e w'=>TB (nm=⟨#[]⟩∧nms=[]∧l=[]∧VZ (m + 1) (vh,vl)) w e w':=by
 obtain ⟨al,cl,hle,hc1,hc2⟩:=hr.tl.len
 obtain ⟨an,cn,hne,hd1,hd2⟩:=hr.1.len
 obtain ⟨x1,y1,z1,x2,y2,z2,x3,y3,z3,x4,y4,z4,hqs⟩:=hr.shape
 subst hqs
 obtain ⟨rfl,rfl,rfl⟩:=Value.slice.inj hle
 obtain ⟨rfl,rfl,rfl⟩:=Value.slice.inj hne
 clear hle hne hc1 hc2 hd1 hd2
 have hE:=hide (fun o=>equal_any (m + 1) (vh,vl) (zr 0,[]) (.slice x3 y3 z3) (.slice x4 y4 z4) (.slice none 0 0) (.slice none 0 0) (w.alloc o) (hr.2.1.below (below_al (o:=o) (Below.refl _ _))) (rd_zero m _ 0))
 show Calls _ _ #[.agg #[.int .i64 k,.string nm,.slice x1 nms.length z1,.slice x2 l.length z2,.int .i64 vh.kind,.bool vh.flag,.bool vh.neg,.string vh.dig,.int .i64 vh.exp,.int .u64 vh.bits,.string vh.text,.slice x3 y3 z3,.slice x4 y4 z4]] _ _
 clear hr
 rcases hk with rfl|rfl|rfl|rfl|rfl
 all_goals
  by_cases h1:nm=⟨#[]⟩
  ·have E1:=hide h1
   rw [h1]
   clear h1
   by_cases h2:nms=[]
   ·have E2:=hide h2
    have zE2:nms.length=0:=by rw [h2];rfl
    rw [zE2]
    clear zE2 h2
    by_cases h3:l=[]
    ·have E3:=hide h3
     have zE3:l.length=0:=by rw [h3];rfl
     rw [zE3]
     clear zE3 h3
     go_enter Tryz.func74, Tryz.ntmps74
     go_wp2_with (go_at_call 132;refine (hE.out _).mono ?_;rintro e w1 ⟨b,rfl,hT,hb1⟩)
     go_ret
     exact ⟨b,rfl,(show Hid _ from ⟨fun q=>⟨(by first|trivial|rfl|exact E1.out),E2.out,E3.out,hT.1 q⟩,fun q=>hT.2 q.2.2.2⟩),below_then (below_al (Below.refl _ _)) hb1⟩
    ·have HE3:=hide h3
     go_enter Tryz.func74, Tryz.ntmps74
     go_wp2_with fail
     go_ret
     exact TB.no (fun q=>HE3.out q.2.2.1) (below_al (Below.refl _ _))
   ·have HE2:=hide h2
    go_enter Tryz.func74, Tryz.ntmps74
    go_wp2_with fail
    go_ret
    exact TB.no (fun q=>HE2.out q.2.1) (below_al (Below.refl _ _))
  ·have b1:¬ nm.toList=[]:=tl0 h1
   have H1:=hide h1
   clear h1
   go_enter Tryz.func74, Tryz.ntmps74
   go_wp2_with fail
   go_ret
   exact TB.no (fun q=>H1.out q.1) (below_al (Below.refl _ _))
set_option maxHeartbeats 4000000 in
set_option maxRecDepth 100000 in
theorem bare_slv (k:Int) (hk:k=2∨k=5) (n m:Nat) (nm:ByteArray) (nms:List ByteArray) (vh:Hd) (vl:List (VT m)) (l:List (ET n)) (q:Sl) (w:World) (hr:RE (n + 1) w (⟨k,nm,nms,m + 1,(vh,vl)⟩,l) q) :
  Calls Tryz.prog 74 #[.agg (ecl ⟨k,nm,nms,m + 1,(vh,vl)⟩ q)] w fun e w'=>TB (nms=[]∧l=[]∧VZ (m + 1) (vh,vl)) w e w':=by
 obtain ⟨al,cl,hle,hc1,hc2⟩:=hr.tl.len
 obtain ⟨an,cn,hne,hd1,hd2⟩:=hr.1.len
 obtain ⟨x1,y1,z1,x2,y2,z2,x3,y3,z3,x4,y4,z4,hqs⟩:=hr.shape
 subst hqs
 obtain ⟨rfl,rfl,rfl⟩:=Value.slice.inj hle
 obtain ⟨rfl,rfl,rfl⟩:=Value.slice.inj hne
 clear hle hne hc1 hc2 hd1 hd2
 have hE:=hide (fun o=>equal_any (m + 1) (vh,vl) (zr 0,[]) (.slice x3 y3 z3) (.slice x4 y4 z4) (.slice none 0 0) (.slice none 0 0) (w.alloc o) (hr.2.1.below (below_al (o:=o) (Below.refl _ _))) (rd_zero m _ 0))
 show Calls _ _ #[.agg #[.int .i64 k,.string nm,.slice x1 nms.length z1,.slice x2 l.length z2,.int .i64 vh.kind,.bool vh.flag,.bool vh.neg,.string vh.dig,.int .i64 vh.exp,.int .u64 vh.bits,.string vh.text,.slice x3 y3 z3,.slice x4 y4 z4]] _ _
 clear hr
 rcases hk with rfl|rfl
 all_goals
  by_cases h2:nms=[]
  ·have E2:=hide h2
   have zE2:nms.length=0:=by rw [h2];rfl
   rw [zE2]
   clear zE2 h2
   by_cases h3:l=[]
   ·have E3:=hide h3
    have zE3:l.length=0:=by rw [h3];rfl
    rw [zE3]
    clear zE3 h3
    go_enter Tryz.func74, Tryz.ntmps74
    go_wp2_with (go_at_call 132;refine (hE.out _).mono ?_;rintro e w1 ⟨b,rfl,hT,hb1⟩)
    go_ret
    exact ⟨b,rfl,(show Hid _ from ⟨fun q=>⟨E2.out,E3.out,hT.1 q⟩,fun q=>hT.2 q.2.2⟩),below_then (below_al (Below.refl _ _)) hb1⟩
   ·have HE3:=hide h3
    go_enter Tryz.func74, Tryz.ntmps74
    go_wp2_with fail
    go_ret
    exact TB.no (fun q=>HE3.out q.2.1) (below_al (Below.refl _ _))
  ·have HE2:=hide h2
   go_enter Tryz.func74, Tryz.ntmps74
   go_wp2_with fail
   go_ret
   exact TB.no (fun q=>HE2.out q.1) (below_al (Below.refl _ _))
set_option maxHeartbeats 4000000 in
set_option maxRecDepth 100000 in
theorem bare_nv (k:Int) (hk:k=3∨k=6) (n m:Nat) (nm:ByteArray) (nms:List ByteArray) (vh:Hd) (vl:List (VT m)) (l:List (ET n)) (q:Sl) (w:World) (hr:RE (n + 1) w (⟨k,nm,nms,m + 1,(vh,vl)⟩,l) q) :
  Calls Tryz.prog 74 #[.agg (ecl ⟨k,nm,nms,m + 1,(vh,vl)⟩ q)] w fun e w'=>TB (nm=⟨#[]⟩∧VZ (m + 1) (vh,vl)) w e w':=by
 obtain ⟨al,cl,hle,hc1,hc2⟩:=hr.tl.len
 obtain ⟨an,cn,hne,hd1,hd2⟩:=hr.1.len
 obtain ⟨x1,y1,z1,x2,y2,z2,x3,y3,z3,x4,y4,z4,hqs⟩:=hr.shape
 subst hqs
 obtain ⟨rfl,rfl,rfl⟩:=Value.slice.inj hle
 obtain ⟨rfl,rfl,rfl⟩:=Value.slice.inj hne
 clear hle hne hc1 hc2 hd1 hd2
 have hE:=hide (fun o=>equal_any (m + 1) (vh,vl) (zr 0,[]) (.slice x3 y3 z3) (.slice x4 y4 z4) (.slice none 0 0) (.slice none 0 0) (w.alloc o) (hr.2.1.below (below_al (o:=o) (Below.refl _ _))) (rd_zero m _ 0))
 show Calls _ _ #[.agg #[.int .i64 k,.string nm,.slice x1 nms.length z1,.slice x2 l.length z2,.int .i64 vh.kind,.bool vh.flag,.bool vh.neg,.string vh.dig,.int .i64 vh.exp,.int .u64 vh.bits,.string vh.text,.slice x3 y3 z3,.slice x4 y4 z4]] _ _
 clear hr
 rcases hk with rfl|rfl
 all_goals
  by_cases h1:nm=⟨#[]⟩
  ·have E1:=hide h1
   rw [h1]
   clear h1
   go_enter Tryz.func74, Tryz.ntmps74
   go_wp2_with (go_at_call 132;refine (hE.out _).mono ?_;rintro e w1 ⟨b,rfl,hT,hb1⟩)
   go_ret
   exact ⟨b,rfl,(show Hid _ from ⟨fun q=>⟨(by first|trivial|rfl|exact E1.out),hT.1 q⟩,fun q=>hT.2 q.2⟩),below_then (below_al (Below.refl _ _)) hb1⟩
  ·have b1:¬ nm.toList=[]:=tl0 h1
   have H1:=hide h1
   clear h1
   go_enter Tryz.func74, Tryz.ntmps74
   go_wp2_with fail
   go_ret
   exact TB.no (fun q=>H1.out q.1) (below_al (Below.refl _ _))
set_option maxHeartbeats 4000000 in
set_option maxRecDepth 100000 in
theorem bare_nsv (k:Int) (hk:k=4∨k=12) (n m:Nat) (nm:ByteArray) (nms:List ByteArray) (vh:Hd) (vl:List (VT m)) (l:List (ET n)) (q:Sl) (w:World) (hr:RE (n + 1) w (⟨k,nm,nms,m + 1,(vh,vl)⟩,l) q) :
  Calls Tryz.prog 74 #[.agg (ecl ⟨k,nm,nms,m + 1,(vh,vl)⟩ q)] w fun e w'=>TB (nm=⟨#[]⟩∧nms=[]∧VZ (m + 1) (vh,vl)) w e w':=by
 obtain ⟨al,cl,hle,hc1,hc2⟩:=hr.tl.len
 obtain ⟨an,cn,hne,hd1,hd2⟩:=hr.1.len
 obtain ⟨x1,y1,z1,x2,y2,z2,x3,y3,z3,x4,y4,z4,hqs⟩:=hr.shape
 subst hqs
 obtain ⟨rfl,rfl,rfl⟩:=Value.slice.inj hle
 obtain ⟨rfl,rfl,rfl⟩:=Value.slice.inj hne
 clear hle hne hc1 hc2 hd1 hd2
 have hE:=hide (fun o=>equal_any (m + 1) (vh,vl) (zr 0,[]) (.slice x3 y3 z3) (.slice x4 y4 z4) (.slice none 0 0) (.slice none 0 0) (w.alloc o) (hr.2.1.below (below_al (o:=o) (Below.refl _ _))) (rd_zero m _ 0))
 show Calls _ _ #[.agg #[.int .i64 k,.string nm,.slice x1 nms.length z1,.slice x2 l.length z2,.int .i64 vh.kind,.bool vh.flag,.bool vh.neg,.string vh.dig,.int .i64 vh.exp,.int .u64 vh.bits,.string vh.text,.slice x3 y3 z3,.slice x4 y4 z4]] _ _
 clear hr
 rcases hk with rfl|rfl
 all_goals
  by_cases h1:nm=⟨#[]⟩
  ·have E1:=hide h1
   rw [h1]
   clear h1
   by_cases h2:nms=[]
   ·have E2:=hide h2
    have zE2:nms.length=0:=by rw [h2];rfl
    rw [zE2]
    clear zE2 h2
    go_enter Tryz.func74, Tryz.ntmps74
    go_wp2_with (go_at_call 132;refine (hE.out _).mono ?_;rintro e w1 ⟨b,rfl,hT,hb1⟩)
    go_ret
    exact ⟨b,rfl,(show Hid _ from ⟨fun q=>⟨(by first|trivial|rfl|exact E1.out),E2.out,hT.1 q⟩,fun q=>hT.2 q.2.2⟩),below_then (below_al (Below.refl _ _)) hb1⟩
   ·have HE2:=hide h2
    go_enter Tryz.func74, Tryz.ntmps74
    go_wp2_with fail
    go_ret
    exact TB.no (fun q=>HE2.out q.2.1) (below_al (Below.refl _ _))
  ·have b1:¬ nm.toList=[]:=tl0 h1
   have H1:=hide h1
   clear h1
   go_enter Tryz.func74, Tryz.ntmps74
   go_wp2_with fail
   go_ret
   exact TB.no (fun q=>H1.out q.1) (below_al (Below.refl _ _))
set_option maxHeartbeats 4000000 in
set_option maxRecDepth 100000 in
theorem bare_nsl (k:Int) (hk:k=7) (n m:Nat) (nm:ByteArray) (nms:List ByteArray) (vh:Hd) (vl:List (VT m)) (l:List (ET n)) (q:Sl) (w:World) (hr:RE (n + 1) w (⟨k,nm,nms,m + 1,(vh,vl)⟩,l) q) :
  Calls Tryz.prog 74 #[.agg (ecl ⟨k,nm,nms,m + 1,(vh,vl)⟩ q)] w fun e w'=>TB (nm=⟨#[]⟩∧nms=[]∧l=[]) w e w':=by
 obtain ⟨al,cl,hle,hc1,hc2⟩:=hr.tl.len
 obtain ⟨an,cn,hne,hd1,hd2⟩:=hr.1.len
 obtain ⟨x1,y1,z1,x2,y2,z2,x3,y3,z3,x4,y4,z4,hqs⟩:=hr.shape
 subst hqs
 obtain ⟨rfl,rfl,rfl⟩:=Value.slice.inj hle
 obtain ⟨rfl,rfl,rfl⟩:=Value.slice.inj hne
 clear hle hne hc1 hc2 hd1 hd2
 have hE:=hide (fun o=>equal_any (m + 1) (zr 0,[]) (zr 0,[]) (.slice none 0 0) (.slice none 0 0) (.slice none 0 0) (.slice none 0 0) (w.alloc o) (rd_zero m _ 0) (rd_zero m _ 0))
 show Calls _ _ #[.agg #[.int .i64 k,.string nm,.slice x1 nms.length z1,.slice x2 l.length z2,.int .i64 vh.kind,.bool vh.flag,.bool vh.neg,.string vh.dig,.int .i64 vh.exp,.int .u64 vh.bits,.string vh.text,.slice x3 y3 z3,.slice x4 y4 z4]] _ _
 clear hr
 rcases hk with rfl
 all_goals
  by_cases h1:nm=⟨#[]⟩
  ·have E1:=hide h1
   rw [h1]
   clear h1
   by_cases h2:nms=[]
   ·have E2:=hide h2
    have zE2:nms.length=0:=by rw [h2];rfl
    rw [zE2]
    clear zE2 h2
    by_cases h3:l=[]
    ·have E3:=hide h3
     have zE3:l.length=0:=by rw [h3];rfl
     rw [zE3]
     clear zE3 h3
     go_enter Tryz.func74, Tryz.ntmps74
     go_wp2_with (go_at_call 132;refine (hE.out _).mono ?_;rintro e w1 ⟨b,rfl,hT,hb1⟩)
     go_ret
     exact ⟨b,rfl,(show Hid _ from ⟨fun q=>⟨(by first|trivial|rfl|exact E1.out),E2.out,E3.out⟩,fun q=>hT.2 rfl⟩),below_then (below_al (Below.refl _ _)) hb1⟩
    ·have HE3:=hide h3
     go_enter Tryz.func74, Tryz.ntmps74
     go_wp2_with fail
     go_ret
     exact TB.no (fun q=>HE3.out q.2.2) (below_al (Below.refl _ _))
   ·have HE2:=hide h2
    go_enter Tryz.func74, Tryz.ntmps74
    go_wp2_with fail
    go_ret
    exact TB.no (fun q=>HE2.out q.2.1) (below_al (Below.refl _ _))
  ·have b1:¬ nm.toList=[]:=tl0 h1
   have H1:=hide h1
   clear h1
   go_enter Tryz.func74, Tryz.ntmps74
   go_wp2_with fail
   go_ret
   exact TB.no (fun q=>H1.out q.1) (below_al (Below.refl _ _))
end Lx
end Go.Proofs.YtgicnopppgnjjaaGreatDoor
namespace Go.Proofs.YtgicnopppgnjjaaGreatDoor
namespace Lx
open Go.RowKit
theorem TB.iff {p p':Prop} {w w':World} {e:Ending} (h:TB p w e w') (k:p↔p'):TB p' w e w':=by
 obtain ⟨b,e1,t,hb⟩:=h
 exact ⟨b,e1,(show Hid _ from ⟨fun q=>k.1 (t.1 q),fun q=>t.2 (k.2 q)⟩),hb⟩
def EBare {α:Type} (h:Eh) (l:List α):Prop:=(1≤h.op∧h.op≤12)∧(h.op=2∨h.op=5∨h.name=⟨#[]⟩)∧(h.op=3∨h.op=6∨h.names=[])∧(h.op=3∨h.op=4∨h.op=6∨h.op=12∨l=[])∧(h.op=7∨VZ h.vn h.val)
set_option maxHeartbeats 2000000 in
set_option maxRecDepth 100000 in
theorem ebare_any (n:Nat) (h:Eh) (l:List (ET n)) (q:Sl) (w:World) (hr:RE (n + 1) w (h,l) q) :
  Calls Tryz.prog 74 #[.agg (ecl h q)] w fun e w'=>TB (EBare h l) w e w':=by
 obtain ⟨op,nm,nms,vn,val⟩:=h
 cases vn with
 | zero=>exact Empty.elim val
 | succ m =>
  obtain ⟨vh,vl⟩:=val
  have key:∀ (k:Int) (p:Prop),(Calls Tryz.prog 74 #[.agg (ecl ⟨k,nm,nms,m + 1,(vh,vl)⟩ q)] w fun e w'=>TB p w e w')→(p↔EBare ⟨k,nm,nms,m + 1,(vh,vl)⟩ l)→Calls Tryz.prog 74 #[.agg (ecl ⟨k,nm,nms,m + 1,(vh,vl)⟩ q)] w fun e w'=>TB (EBare ⟨k,nm,nms,m + 1,(vh,vl)⟩ l) w e w':=fun k p h1 h2=>h1.mono fun e w' h3=>TB.iff h3 h2
  by_cases k1:op=1
  ·subst k1;exact key 1 _ (bare_nslv 1 (by decide) n m nm nms vh vl l q w hr) (by simp [EBare])
  by_cases k2:op=2
  ·subst k2;exact key 2 _ (bare_slv 2 (by decide) n m nm nms vh vl l q w hr) (by simp [EBare])
  by_cases k3:op=3
  ·subst k3;exact key 3 _ (bare_nv 3 (by decide) n m nm nms vh vl l q w hr) (by simp [EBare])
  by_cases k4:op=4
  ·subst k4;exact key 4 _ (bare_nsv 4 (by decide) n m nm nms vh vl l q w hr) (by simp [EBare])
  by_cases k5:op=5
  ·subst k5;exact key 5 _ (bare_slv 5 (by decide) n m nm nms vh vl l q w hr) (by simp [EBare])
  by_cases k6:op=6
  ·subst k6;exact key 6 _ (bare_nv 6 (by decide) n m nm nms vh vl l q w hr) (by simp [EBare])
  by_cases k7:op=7
  ·subst k7;exact key 7 _ (bare_nsl 7 (by decide) n m nm nms vh vl l q w hr) (by simp [EBare])
  by_cases k8:op=8
  ·subst k8;exact key 8 _ (bare_nslv 8 (by decide) n m nm nms vh vl l q w hr) (by simp [EBare])
  by_cases k9:op=9
  ·subst k9;exact key 9 _ (bare_nslv 9 (by decide) n m nm nms vh vl l q w hr) (by simp [EBare])
  by_cases k10:op=10
  ·subst k10;exact key 10 _ (bare_nslv 10 (by decide) n m nm nms vh vl l q w hr) (by simp [EBare])
  by_cases k11:op=11
  ·subst k11;exact key 11 _ (bare_nslv 11 (by decide) n m nm nms vh vl l q w hr) (by simp [EBare])
  by_cases k12:op=12
  ·subst k12;exact key 12 _ (bare_nsv 12 (by decide) n m nm nms vh vl l q w hr) (by simp [EBare])
  have hx:¬ EBare ⟨op,nm,nms,m + 1,(vh,vl)⟩ l:=by
   rintro ⟨⟨q1,q2⟩,_⟩
   simp only at q1 q2
   omega
  have hx':=hide hx
  obtain ⟨x1,y1,z1,x2,y2,z2,x3,y3,z3,x4,y4,z4,hqs⟩:=hr.shape
  subst hqs
  clear hx hr key
  show Calls _ _ #[.agg #[.int .i64 op,.string nm,.slice x1 y1 z1,.slice x2 y2 z2,.int .i64 vh.kind,.bool vh.flag,.bool vh.neg,.string vh.dig,.int .i64 vh.exp,.int .u64 vh.bits,.string vh.text,.slice x3 y3 z3,.slice x4 y4 z4]] _ _
  go_enter Tryz.func74, Tryz.ntmps74
  go_wp2_with fail
  go_ret
  exact TB.no hx'.out (below_al (Below.refl _ _))
set_option maxHeartbeats 2000000 in
theorem isConst_any (k:Int) (w:World):Calls Tryz.prog 133 #[.int .i64 k] w fun e w'=>TB (k=1∨k=2∨k=3∨k=5) w e w':=by
 by_cases k1:k=1
 ·subst k1
  go_enter Tryz.func133, Tryz.ntmps133
  go_wp2_with fail
  go_ret
  exact TB.yes (by simp) (Below.refl _ _)
 by_cases k2:k=2
 ·subst k2
  go_enter Tryz.func133, Tryz.ntmps133
  go_wp2_with fail
  go_ret
  exact TB.yes (by simp) (Below.refl _ _)
 by_cases k3:k=3
 ·subst k3
  go_enter Tryz.func133, Tryz.ntmps133
  go_wp2_with fail
  go_ret
  exact TB.yes (by simp) (Below.refl _ _)
 by_cases k5:k=5
 ·subst k5
  go_enter Tryz.func133, Tryz.ntmps133
  go_wp2_with fail
  go_ret
  exact TB.yes (by simp) (Below.refl _ _)
 have hx:=hide (show ¬ (k=1∨k=2∨k=3∨k=5) by omega)
 go_enter Tryz.func133, Tryz.ntmps133
 go_wp2_with fail
 go_ret
 exact TB.no hx.out (Below.refl _ _)
end Lx
end Go.Proofs.YtgicnopppgnjjaaGreatDoor
namespace Go.Proofs.YtgicnopppgnjjaaGreatDoor
namespace Lx
open Go.RowKit
structure Ask (F:FuncId) (P:(n:Nat)→ET n→Prop) (S:(n:Nat)→ET n→World→Prop):Prop where
 call:∀ (n:Nat) (x:ET n) (q:Sl) (w:World),RE n w x q→S n x w→Calls Tryz.prog F #[.agg (ecl (ehd n x) q)] w fun e w'=>TB (P n x) w e w'
 low:∀ (n:Nat) (x:ET n) (w W:World),S n x w→Below w.heap.size w W→S n x W
 kid:∀ (n:Nat) (h:Eh) (l:List (ET n)) (w:World),S (n + 1) (h,l) w→∀ i (hi:i<l.length),S n l[i] w
def evA (P:(n:Nat)→ET n→Prop):(n:Nat)→ET n→Prop
 | 0,_=>False
 | n + 1,x=>P (n + 1) x∧∀ i (h:i<x.2.length),evA P n x.2[i]
def such (F:FuncId):Value:=.func (.func F) #[] #[]
def EvOk (F:FuncId) (P:(n:Nat)→ET n→Prop) (S:(n:Nat)→ET n→World→Prop) (n:Nat):Prop:=∀ (x:ET n) (q:Sl) (w:World),RE n w x q→S n x w→Calls Tryz.prog 73 #[.agg (ecl (ehd n x) q),such F] w fun e w'=>TB (evA P n x) w e w'
def Sb (W:World) (i:Nat) (F:FuncId):Prop:=W.heap[i]?=some (.cells #[such F] 51 (0,0))
section
variable {F : FuncId} {P : (n : Nat) → ET n → Prop} {S : (n : Nat) → ET n → World → Prop}
set_option maxHeartbeats 2000000 in
set_option maxRecDepth 100000 in
theorem every1_any (n:Nat) (ih:EvOk F P S n) (x:ET n) (q:Sl) (w:World) (i:Nat) (hr:RE n w x q) (hs:S n x w) (hb:Sb w i F) (A:Ask F P S):Calls Tryz.prog 131 #[.agg (ecl (ehd n x) q),.pointer (some ⟨i,0,none⟩)] w fun e w'=>TB (¬ evA P n x) w e w':=by
 obtain ⟨x1,y1,z1,x2,y2,z2,x3,y3,z3,x4,y4,z4,hqs⟩:=hr.shape
 subst hqs
 have hlt:i<w.heap.size:=(Array.getElem?_eq_some_iff.1 hb).1
 have cs:w.cell? ⟨i,0,none⟩=some (such F):=by unfold World.cell?;rw [hb];rfl
 have hc:=hide (fun o=>ih x ⟨.slice x1 y1 z1,.slice x2 y2 z2,.slice x3 y3 z3,.slice x4 y4 z4⟩ (w.alloc o) (hr.below (below_al (Below.refl _ _))) (A.low _ _ _ _ hs (below_al (Below.refl _ _))))
 clear hr hs hb ih A
 unfold such at cs hc
 unfold ecl
 go_enter Tryz.func131, Tryz.ntmps131
 go_wp2_with (go_at_call 73;refine (hc.out _).mono ?_;rintro e w1 ⟨b,rfl,hT,hb1⟩)
 go_ret
 refine ⟨!b,rfl,(show Hid _ from ⟨fun k he=>?_,fun hne=>?_⟩),below_then (below_al (Below.refl _ _)) hb1⟩
 ·have:=hT.2 he
  rw [this] at k
  cases k
 ·cases b
  ·rfl
  ·exact absurd (hT.1 rfl) hne
theorem Sb.below {W W1:World} {i:Nat} (h:Sb W i F) (hb:Below W.heap.size W W1):Sb W1 i F:=(hb.block _ (Array.getElem?_eq_some_iff.1 h).1).trans h
set_option maxHeartbeats 2000000 in
set_option maxRecDepth 100000 in
theorem eindex_any (n:Nat) (ih:EvOk F P S n) (v:Value) (l:List (ET n)) (w:World) (j:Nat) (hl:EL n w v l) (hs:∀ i (hi:i<l.length),S n l[i] w) (hb:Sb w j F) (A:Ask F P S) :
  Calls Tryz.prog 167 #[v,.func (.func 131) #[] #[.pointer (some ⟨j,0,none⟩)]] w fun e w'=>∃ k:Int,e=.returned (.int .i64 k)∧Hid (0≤k↔∃ i,∃ h:i<l.length,¬ evA P n l[i])∧Below w.heap.size w w':=by
 obtain ⟨al,cl,rfl,hl1,hl2⟩:=hl.len
 have ml:maxLen=9223372036854775807:=rfl
 have HL:=hide hl
 have HS:=hide hs
 have HB:=hide hb
 have HA:=hide A
 have IH:=hide ih
 clear hl hs hb A ih
 go_enter Tryz.func167, Tryz.ntmps167
 go_wp2_with fail
 go_loopw [8] (fun i w'=>∃ k:Nat,i=.int .i64 k∧k≤l.length∧Hid ((∀ i (h1:i<l.length),i<k→evA P n l[i])∧Below w.heap.size w w')) (fun i _=>l.length - (intOf i).toNat)
 case atStart=>exact ⟨0,rfl,Nat.zero_le _,(fun i _ h=>by omega),Below.refl _ _⟩
 case round =>
  obtain ⟨k,rfl,hk,H⟩:=hrel
  by_cases hkl:k<l.length
  ·have hki:(k:Int)<(l.length:Int):=by omega
   have hk63:(k:Int)<9223372036854775807:=by omega
   obtain ⟨b,o,c,he,hbl,hlc,hcm,q,hrg,hrd⟩:=HL.out.at k hkl
   have he':=Value.slice.inj he
   obtain ⟨rfl,_,rfl⟩:=he'
   clear he
   have hrg2:=rangeAt_below hrg H.out.2 hbl
   obtain ⟨x1,y1,z1,x2,y2,z2,x3,y3,z3,x4,y4,z4,hqs⟩:=hrd.shape
   subst hqs
   have q0:=range13 hrg2
   have hc:=hide (fun W (hb:Below w.heap.size w W)=>every1_any n IH.out l[k] ⟨.slice x1 y1 z1,.slice x2 y2 z2,.slice x3 y3 z3,.slice x4 y4 z4⟩ W j (hrd.below hb) (HA.out.low _ _ _ _ (HS.out k hkl) hb) (HB.out.below hb) HA.out)
   clear hrg hrg2 hrd
   unfold ecl at hc
   go_wp2_with (go_at_call 131;refine Sto.out ?_)
   refine Sto.mk ?_
   refine (hc.out _ H.out.2).mono ?_
   rintro e w2 ⟨b2,rfl,hT,hb1⟩
   have hb2:=hide (below_then H.out.2 hb1)
   cases b2
   ·have hEq:Hid (evA P n l[k]):=hide (Classical.byContradiction fun q=>by have:=hT.2 q;cases this)
    go_wp2_with fail
    refine ⟨⟨k + 1,by go_num,by omega,(fun i h1 h3=>?_),hb2.out⟩,by simp [intOf];omega⟩
    by_cases e:i=k
    ·subst e;exact hEq.out
    ·exact H.out.1 i h1 (by omega)
   ·have hne:=hide (hT.1 rfl)
    go_wp2_with fail
    go_ret
    exact ⟨k,rfl,(show Hid _ from ⟨fun _=>⟨k,hkl,hne.out⟩,fun _=>by omega⟩),hb2.out⟩
  ·have hki:¬ ((k:Int)<(l.length:Int)):=by omega
   have hE':=hide (show ∀ i (h1:i<l.length),evA P n l[i] from fun i h1=>H.out.1 i h1 (by omega))
   go_wp2_with fail
   go_ret
   exact ⟨-1,rfl,(show Hid _ from ⟨fun h=>by omega,fun ⟨i,h,q⟩=>absurd (hE'.out i h) q⟩),H.out.2⟩
set_option maxHeartbeats 2000000 in
set_option maxRecDepth 100000 in
theorem econtains_any (n:Nat) (ih:EvOk F P S n) (v:Value) (l:List (ET n)) (w:World) (j:Nat) (hl:EL n w v l) (hs:∀ i (hi:i<l.length),S n l[i] w) (hb:Sb w j F) (A:Ask F P S) :
  Calls Tryz.prog 130 #[v,.func (.func 131) #[] #[.pointer (some ⟨j,0,none⟩)]] w fun e w'=>TB (∃ i,∃ h:i<l.length,¬ evA P n l[i]) w e w':=by
 have hc:=hide (eindex_any n ih v l w j hl hs hb A)
 obtain ⟨al,cl,rfl,hl1,hl2⟩:=hl.len
 obtain ⟨p,hp⟩:∃ p,(∃ i,∃ h:i<l.length,¬ evA P n l[i])=p:=⟨_,rfl⟩
 rw [hp] at hc ⊢
 clear hl hs hb A ih hp
 go_enter Tryz.func130, Tryz.ntmps130
 go_wp2_with (go_at_call 167;refine hc.out.mono ?_;rintro e w1 ⟨k,rfl,hT,hb1⟩)
 go_ret
 exact ⟨_,rfl,(show Hid _ from ⟨fun q=>hT.out.1 (by simpa using q),fun q=>by simpa using hT.out.2 q⟩),hb1⟩
set_option maxHeartbeats 4000000 in
set_option maxRecDepth 100000 in
theorem every_step (hF:F=74∨F=75∨F=76) (n:Nat) (ih:EvOk F P S n) (A:Ask F P S):EvOk F P S (n + 1):=by
 intro x q w hr hs
 obtain ⟨h,l⟩:=x
 obtain ⟨al,cl,hle,hc1,hc2⟩:=hr.tl.len
 obtain ⟨x1,y1,z1,x2,y2,z2,x3,y3,z3,x4,y4,z4,hqs⟩:=hr.shape
 subst hqs
 obtain ⟨rfl,rfl,rfl⟩:=Value.slice.inj hle
 clear hle
 have HR:=hide hr
 have HS:=hide hs
 have HA:=hide A
 have IH:=hide ih
 have hc:=hide (fun W (hb:Below w.heap.size w W)=>A.call (n + 1) (h,l) ⟨.slice x1 y1 z1,.slice x2 l.length z2,.slice x3 y3 z3,.slice x4 y4 z4⟩ W (hr.below hb) (A.low _ _ _ _ hs hb))
 clear hr hs A ih
 have hmf:∀ (fn:Fn) (first cap:Array Value) (w:World),(Instr.makeFunc fn first cap).run Tryz.prog w=.ok (.func fn first cap) w:=fun _ _ _ _=>rfl
 show Calls _ _ #[.agg #[.int .i64 h.op,.string h.name,.slice x1 y1 z1,.slice x2 l.length z2,.int .i64 (vhd h.vn h.val).kind,.bool (vhd h.vn h.val).flag,.bool (vhd h.vn h.val).neg,.string (vhd h.vn h.val).dig,.int .i64 (vhd h.vn h.val).exp,.int .u64 (vhd h.vn h.val).bits,.string (vhd h.vn h.val).text,.slice x3 y3 z3,.slice x4 y4 z4],_] _ _
 unfold such
 simp only [ehd,ecl] at hc
 obtain ⟨B,hB⟩:∃ B,w.alloc (.cells #[.int .i64 h.op,.string h.name,.slice x1 y1 z1,.slice x2 l.length z2,.int .i64 (vhd h.vn h.val).kind,.bool (vhd h.vn h.val).flag,.bool (vhd h.vn h.val).neg,.string (vhd h.vn h.val).dig,.int .i64 (vhd h.vn h.val).exp,.int .u64 (vhd h.vn h.val).bits,.string (vhd h.vn h.val).text,.slice x3 y3 z3,.slice x4 y4 z4] 33)=B:=⟨_,rfl⟩
 have S0:Hid (Sb (B.alloc (.cells #[such F] 51)) (w.heap.size + 1) F):=by
  have:=heap_alloc_last B (.cells #[such F] 51)
  rw [←hB,World.size_alloc] at this
  rw [←hB]
  exact this
 have X0:Hid (Ex (B.alloc (.cells #[such F] 51)) w.heap.size h ⟨.slice x1 y1 z1,.slice x2 l.length z2,.slice x3 y3 z3,.slice x4 y4 z4⟩):=by
  rw [←hB]
  exact (ex_new w h _).below (below_al (Below.refl _ _))
 rw [←hB] at S0 X0
 clear hB B
 unfold such at S0
 rcases hF with rfl|rfl|rfl
 ·go_enter Tryz.func73, Tryz.ntmps73
  go_wp2_with (go_at_call 74;refine Sto.out ?_)
  refine Sto.mk ?_
  refine (hc.out _ (below_al (below_al (Below.refl _ _)))).mono ?_
  rintro e w1 ⟨b,rfl,hT,hb1⟩
  have hT1:=hide hT
  have S1:=hide (S0.out.below hb1)
  have X1:=hide (X0.out.below hb1)
  have B1:=hide (below_then (below_al (below_al (Below.refl _ _))) hb1)
  have x0:=X1.out.cells
  have hc2:=hide (econtains_any n IH.out (.slice x2 l.length z2) l w1 (w.heap.size + 1) (HR.out.tl.below B1.out) (fun i hi=>HA.out.low _ _ _ _ (HA.out.kid n h l w HS.out i hi) B1.out) S1.out HA.out)
  clear hT hb1 S0 X0
  cases b
  ·have hn:=hide (show ¬ P (n + 1) (h,l) from fun q=>by have:=hT1.out.2 q;cases this)
   go_wp2_with fail
   go_ret
   exact TB.no (fun q=>hn.out q.1) B1.out
  ·have hy:=hide (hT1.out.1 rfl)
   go_wp2_with (go_at_call 130;refine Sto.out ?_)
   refine Sto.mk ?_
   refine hc2.out.mono ?_
   rintro e w2 ⟨b2,rfl,hT2,hb2⟩
   have H2:=hide hT2
   have B2:=hide (below_then B1.out hb2)
   clear hT2 hb2
   go_wp2_with fail
   go_ret
   refine ⟨!b2,rfl,(show Hid _ from ⟨fun k=>⟨hy.out,fun i hi=>Classical.byContradiction fun q=>?_⟩,fun hq=>?_⟩),B2.out⟩
   ·have:=H2.out.2 ⟨i,hi,q⟩
    rw [this] at k
    cases k
   ·cases b2
    ·rfl
    ·obtain ⟨i,hi,q⟩:=H2.out.1 rfl
     exact absurd (hq.2 i hi) q
 ·go_enter Tryz.func73, Tryz.ntmps73
  go_wp2_with (go_at_call 75;refine Sto.out ?_)
  refine Sto.mk ?_
  refine (hc.out _ (below_al (below_al (Below.refl _ _)))).mono ?_
  rintro e w1 ⟨b,rfl,hT,hb1⟩
  have hT1:=hide hT
  have S1:=hide (S0.out.below hb1)
  have X1:=hide (X0.out.below hb1)
  have B1:=hide (below_then (below_al (below_al (Below.refl _ _))) hb1)
  have x0:=X1.out.cells
  have hc2:=hide (econtains_any n IH.out (.slice x2 l.length z2) l w1 (w.heap.size + 1) (HR.out.tl.below B1.out) (fun i hi=>HA.out.low _ _ _ _ (HA.out.kid n h l w HS.out i hi) B1.out) S1.out HA.out)
  clear hT hb1 S0 X0
  cases b
  ·have hn:=hide (show ¬ P (n + 1) (h,l) from fun q=>by have:=hT1.out.2 q;cases this)
   go_wp2_with fail
   go_ret
   exact TB.no (fun q=>hn.out q.1) B1.out
  ·have hy:=hide (hT1.out.1 rfl)
   go_wp2_with (go_at_call 130;refine Sto.out ?_)
   refine Sto.mk ?_
   refine hc2.out.mono ?_
   rintro e w2 ⟨b2,rfl,hT2,hb2⟩
   have H2:=hide hT2
   have B2:=hide (below_then B1.out hb2)
   clear hT2 hb2
   go_wp2_with fail
   go_ret
   refine ⟨!b2,rfl,(show Hid _ from ⟨fun k=>⟨hy.out,fun i hi=>Classical.byContradiction fun q=>?_⟩,fun hq=>?_⟩),B2.out⟩
   ·have:=H2.out.2 ⟨i,hi,q⟩
    rw [this] at k
    cases k
   ·cases b2
    ·rfl
    ·obtain ⟨i,hi,q⟩:=H2.out.1 rfl
     exact absurd (hq.2 i hi) q
 ·go_enter Tryz.func73, Tryz.ntmps73
  go_wp2_with (go_at_call 76;refine Sto.out ?_)
  refine Sto.mk ?_
  refine (hc.out _ (below_al (below_al (Below.refl _ _)))).mono ?_
  rintro e w1 ⟨b,rfl,hT,hb1⟩
  have hT1:=hide hT
  have S1:=hide (S0.out.below hb1)
  have X1:=hide (X0.out.below hb1)
  have B1:=hide (below_then (below_al (below_al (Below.refl _ _))) hb1)
  have x0:=X1.out.cells
  have hc2:=hide (econtains_any n IH.out (.slice x2 l.length z2) l w1 (w.heap.size + 1) (HR.out.tl.below B1.out) (fun i hi=>HA.out.low _ _ _ _ (HA.out.kid n h l w HS.out i hi) B1.out) S1.out HA.out)
  clear hT hb1 S0 X0
  cases b
  ·have hn:=hide (show ¬ P (n + 1) (h,l) from fun q=>by have:=hT1.out.2 q;cases this)
   go_wp2_with fail
   go_ret
   exact TB.no (fun q=>hn.out q.1) B1.out
  ·have hy:=hide (hT1.out.1 rfl)
   go_wp2_with (go_at_call 130;refine Sto.out ?_)
   refine Sto.mk ?_
   refine hc2.out.mono ?_
   rintro e w2 ⟨b2,rfl,hT2,hb2⟩
   have H2:=hide hT2
   have B2:=hide (below_then B1.out hb2)
   clear hT2 hb2
   go_wp2_with fail
   go_ret
   refine ⟨!b2,rfl,(show Hid _ from ⟨fun k=>⟨hy.out,fun i hi=>Classical.byContradiction fun q=>?_⟩,fun hq=>?_⟩),B2.out⟩
   ·have:=H2.out.2 ⟨i,hi,q⟩
    rw [this] at k
    cases k
   ·cases b2
    ·rfl
    ·obtain ⟨i,hi,q⟩:=H2.out.1 rfl
     exact absurd (hq.2 i hi) q
theorem every_any (hF:F=74∨F=75∨F=76) (A:Ask F P S):∀ n,EvOk F P S n
 | 0=>fun x=>Empty.elim x
 | n + 1=>every_step hF n (every_any hF A n) A
def bareP:(n:Nat)→ET n→Prop
 | 0,_=>False
 | _ + 1,x=>EBare x.1 x.2
theorem askBare:Ask 74 bareP (fun _ _ _=>True):=⟨fun n x q w hr _=>by
 cases n with
 | zero=>exact Empty.elim x
 | succ n=>exact ebare_any n x.1 x.2 q w hr,fun _ _ _ _ _ _=>trivial,fun _ _ _ _ _ _ _=>trivial⟩
end
end Lx
end Go.Proofs.YtgicnopppgnjjaaGreatDoor
namespace Go.Proofs.YtgicnopppgnjjaaGreatDoor
namespace Lx
theorem esz_pos:∀ (n:Nat) (x:ET n),1≤esiz n x
 | 0,x=>Empty.elim x
 | n + 1,x=>by show 1≤1 + _;omega
structure Nd where
 h:Eh
 kids:List Int
def ndz (z:Eh):Nd:=⟨z,[]⟩
def kds:List Nat→Nat→List Int
 | [],_=>[]
 | s :: l,k=>(k:Int) :: kds l (k + s)
def prl {α:Type} (P:α→Nat→List Nd) (S:α→Nat):List α→Nat→List Nd
 | [],_=>[]
 | x :: l,k=>P x k++prl P S l (k + S x)
def prg:(n:Nat)→ET n→Nat→List Nd
 | 0,_,_=>[]
 | n + 1,x,k=>⟨x.1,kds (x.2.map (esiz n)) (k + 1)⟩ :: prl (prg n) (esiz n) x.2 (k + 1)
theorem prl_len {α:Type} {P:α→Nat→List Nd} {S:α→Nat} (h:∀ x k,(P x k).length=S x):∀ (l:List α) (k:Nat),(prl P S l k).length=suml (l.map S)
 | [],_=>rfl
 | x :: l,k=>by
  show (P x k++prl P S l (k + S x)).length=S x + suml (l.map S)
  rw [List.length_append,h,prl_len h l]
theorem prg_len:∀ (n:Nat) (x:ET n) (k:Nat),(prg n x k).length=esiz n x
 | 0,x,_=>Empty.elim x
 | n + 1,x,k=>by
  show (prl (prg n) (esiz n) x.2 (k + 1)).length + 1=1 + suml (x.2.map (esiz n))
  rw [prl_len (prg_len n) x.2]
  omega
theorem kds_len:∀ (l:List Nat) (k:Nat),(kds l k).length=l.length
 | [],_=>rfl
 | s :: l,k=>by show (kds l (k + s)).length + 1=l.length + 1;rw [kds_len l]
def kEnd (L:Nat) (E:Nat→Nat):List Int→Nat→Option Nat
 | [],e=>some e
 | k :: ks,e=>if k=(e:Int)∧e<L then kEnd L E ks (E e) else none
def enF (L:Nat):List Nd→Nat→Option (List Nat)
 | [],_=>some []
 | n :: l,i=>match enF L l (i + 1) with
  | none=>none
  | some es=>match kEnd L (fun p=>es.getD (p - (i + 1)) 0) n.kids (i + 1) with
   | none=>none
   | some e=>some (e :: es)
def inOrd (l:List Nd):Prop:=∃ es,enF l.length l 0=some es∧es[0]?=some l.length
def mpA (z:Eh) (l:List Nd):(f:Nat)→Nat→ET (f + 1)
 | 0,i=>((l.getD i (ndz z)).h,[])
 | f + 1,i=>((l.getD i (ndz z)).h,(l.getD i (ndz z)).kids.map fun k=>mpA z l f k.toNat)
theorem drop_get {α:Type} {l l':List α} {i:Nat} {x d:α} (h:l.drop i=x :: l'):l.getD i d=x∧l.drop (i + 1)=l'∧i<l.length:=by
 have hi:i<l.length:=by
  by_cases hi:i<l.length
  ·exact hi
  ·rw [List.drop_eq_nil_of_le (by omega)] at h;cases h
 rw [List.drop_eq_getElem_cons hi] at h
 injection h with h1 h2
 refine ⟨?_,h2,hi⟩
 rw [List.getD_eq_getElem?_getD,List.getElem?_eq_getElem hi]
 exact h1
theorem take_split {α:Type} (l:List α) (a b c:Nat) (h1:a≤b) (h2:b≤c):(l.drop a).take (b - a)++(l.drop b).take (c - b)=(l.drop a).take (c - a):=by
 have e:l.drop b=(l.drop a).drop (b - a):=by rw [List.drop_drop,show a + (b - a)=b by omega]
 rw [e,show c - a=(b - a) + (c - b) by omega,List.take_add]
def Sub (z:Eh) (all:List Nd) (L p e:Nat):Prop:=p<e∧e≤L∧∀ f,L≤p + 1 + f→prg (f + 1) (mpA z all f p) p=(all.drop p).take (e - p)
theorem Sub.siz {z:Eh} {all:List Nd} {p e:Nat} (h:Sub z all all.length p e) (f:Nat) (hf:all.length≤p + 1 + f):esiz (f + 1) (mpA z all f p)=e - p:=by
 rw [←prg_len _ _ p,h.2.2 f hf,List.length_take,List.length_drop]
 have:=h.1
 have:=h.2.1
 omega
theorem kEnd_ok {z:Eh} {all:List Nd} (E:Nat→Nat) (a:Nat) (hE:∀ p,a≤p→p<all.length→Sub z all all.length p (E p)):∀ (ks:List Int) (e e':Nat),kEnd all.length E ks e=some e'→a≤e→e≤all.length→e≤e'∧e'≤all.length∧(ks≠[]→e<all.length)∧∀ f,all.length≤a + 1 + f →
   kds ((ks.map fun k=>mpA z all f k.toNat).map (esiz (f + 1))) e=ks∧prl (prg (f + 1)) (esiz (f + 1)) (ks.map fun k=>mpA z all f k.toNat) e=(all.drop e).take (e' - e)
 | [],e,e',h,_,he=>by
  simp only [kEnd,Option.some.injEq] at h
  subst h
  exact ⟨Nat.le_refl _,he,fun h=>absurd rfl h,fun f _=>⟨rfl,by simp [prl]⟩⟩
 | k :: ks,e,e',h,ha,he=>by
  unfold kEnd at h
  split at h
  ·rename_i hk
   obtain ⟨hk1,hk2⟩:=hk
   have s:=hE e ha hk2
   obtain ⟨r1,r2,_,r3⟩:=kEnd_ok E a hE ks (E e) e' h (by have:=s.1;omega) s.2.1
   refine ⟨by have:=s.1;omega,r2,fun _=>hk2,fun f hf=>?_⟩
   obtain ⟨q1,q2⟩:=r3 f hf
   have z1:=s.siz f (by omega)
   have e1:e + (E e - e)=E e:=by have:=s.1;omega
   have ek:k.toNat=e:=by omega
   simp only [List.map_cons,kds,prl,ek,z1,e1]
   refine ⟨by rw [q1,hk1],?_⟩
   rw [q2,s.2.2 f (by omega)]
   exact take_split all e (E e) e' (by have:=s.1;omega) r1
  ·cases h
theorem enF_ok {z:Eh} {all:List Nd}:∀ (l:List Nd) (i:Nat) (es:List Nat),all.drop i=l→i + l.length=all.length→enF all.length l i=some es→es.length=l.length∧∀ j (h:j<es.length),Sub z all all.length (i + j) es[j]
 | [],i,es,_,_,h=>by
  simp only [enF,Option.some.injEq] at h
  subst h
  exact ⟨rfl,fun j h=>absurd h (by simp)⟩
 | n :: l,i,es,hd,hl,h=>by
  unfold enF at h
  split at h
  ·cases h
  ·rename_i es1 h1
   split at h
   ·cases h
   ·rename_i e h2
    simp only [Option.some.injEq] at h
    subst h
    obtain ⟨g1,g2,g3⟩:=drop_get (d:=ndz z) hd
    simp only [List.length_cons] at hl
    obtain ⟨k1,k2⟩:=enF_ok l (i + 1) es1 g2 (by omega) h1
    have hE:∀ p,i + 1≤p→p<all.length→Sub z all all.length p (es1.getD (p - (i + 1)) 0):=by
     intro p a b
     have hj:p - (i + 1)<es1.length:=by omega
     have:=k2 (p - (i + 1)) hj
     rw [show i + 1 + (p - (i + 1))=p by omega] at this
     rw [List.getD_eq_getElem?_getD,List.getElem?_eq_getElem hj]
     exact this
    obtain ⟨r1,r2,r4,r3⟩:=kEnd_ok _ (i + 1) hE n.kids (i + 1) e h2 (Nat.le_refl _) (by omega)
    refine ⟨by simp [k1],fun j hj=>?_⟩
    match j with
    | 0 =>
     simp only [List.getElem_cons_zero,Nat.add_zero]
     refine ⟨by omega,r2,fun f hf=>?_⟩
     have ht:(all.drop i).take (e - i)=n :: (all.drop (i + 1)).take (e - (i + 1)):=by
      rw [hd,show e - i=(e - (i + 1)) + 1 by omega,List.take_succ_cons,g2]
     rw [ht]
     match f with
     | 0 =>
      have hk:n.kids=[]:=by
       by_cases hk:n.kids=[]
       ·exact hk
       ·have:=r4 hk;omega
      have he:e=i + 1:=by
       rw [hk] at h2
       simp only [kEnd,Option.some.injEq] at h2
       exact h2.symm
      simp only [prg,mpA,g1,List.map_nil,kds,prl]
      rw [he,Nat.sub_self,List.take_zero]
      obtain ⟨nh,nk⟩:=n
      simp only at hk
      rw [hk]
     | f + 1 =>
      obtain ⟨q1,q2⟩:=r3 f (by omega)
      show (⟨(all.getD i (ndz z)).h,kds (((all.getD i (ndz z)).kids.map fun k=>mpA z all f k.toNat).map (esiz (f + 1))) (i + 1)⟩:Nd) :: prl (prg (f + 1)) (esiz (f + 1)) ((all.getD i (ndz z)).kids.map fun k=>mpA z all f k.toNat) (i + 1)=_
      rw [g1,q1,q2]
    | j + 1 =>
     simp only [List.getElem_cons_succ]
     have:=k2 j (by simpa using hj)
     rw [show i + (j + 1)=i + 1 + j by omega]
     exact this
theorem inOrd_prg {z:Eh} {l:List Nd} (h:inOrd l):l≠[]∧∀ f,l.length≤1 + f→prg (f + 1) (mpA z l f 0) 0=l:=by
 obtain ⟨es,h1,h2⟩:=h
 obtain ⟨k1,k2⟩:=enF_ok (z:=z) l 0 es rfl (by omega) h1
 have hl:0<es.length:=by
  by_cases hl:0<es.length
  ·exact hl
  ·rw [List.getElem?_eq_none (by omega)] at h2;cases h2
 have:=k2 0 hl
 rw [List.getElem?_eq_getElem hl,Option.some.injEq] at h2
 rw [h2] at this
 refine ⟨fun e=>by rw [e] at k1;simp at k1;rw [k1] at hl;simp at hl,fun f hf=>?_⟩
 rw [this.2.2 f (by omega)]
 simp
def chn (L:Nat) (E:Nat→Nat):List Nat→Nat→Prop
 | [],_=>True
 | s :: l,k=>E k=k + s∧k<L∧chn L E l (k + s)
theorem chn_end {L:Nat} {E:Nat→Nat}:∀ (l:List Nat) (k:Nat),chn L E l k→kEnd L E (kds l k) k=some (k + suml l)
 | [],k,_=>by simp [kds,kEnd,suml]
 | s :: l,k,h=>by
  obtain ⟨h1,h2,h3⟩:=h
  have:=chn_end l (k + s) h3
  simp only [kds,kEnd,h1,h2,and_self,if_true,suml]
  rw [this]
  congr 1
  omega
theorem chn_congr {L:Nat} {E E':Nat→Nat}:∀ (l:List Nat) (k:Nat),(∀ p,k≤p→E' p=E p)→chn L E l k→chn L E' l k
 | [],_,_,_=>trivial
 | s :: l,k,h,⟨h1,h2,h3⟩=>⟨by rw [h k (Nat.le_refl _)];exact h1,h2,chn_congr l (k + s) (fun p hp=>h p (by omega)) h3⟩
def EnP (n:Nat):Prop:=∀ (x:ET n) (L k:Nat) (B:List Nd) (eb:List Nat),k + esiz n x + B.length=L→enF L B (k + esiz n x)=some eb→∃ es,enF L (prg n x k++B) k=some (es++eb)∧es.length=esiz n x∧es[0]?=some (k + esiz n x)
theorem enL {n:Nat} (ih:EnP n):∀ (l:List (ET n)) (L k:Nat) (B:List Nd) (eb:List Nat),k + suml (l.map (esiz n)) + B.length=L→enF L B (k + suml (l.map (esiz n)))=some eb →
  ∃ es,enF L (prl (prg n) (esiz n) l k++B) k=some (es++eb)∧es.length=suml (l.map (esiz n))∧chn L (fun p=>(es++eb).getD (p - k) 0) (l.map (esiz n)) k
 | [],L,k,B,eb,_,h=>⟨[],by simpa [prl,suml] using h,rfl,trivial⟩
 | x :: l,L,k,B,eb,hL,h=>by
  simp only [List.map_cons,suml] at hL h ⊢
  rw [show k + (esiz n x + suml (l.map (esiz n)))=k + esiz n x + suml (l.map (esiz n)) by omega] at h
  obtain ⟨e2,a1,a2,a3⟩:=enL ih l L (k + esiz n x) B eb (by omega) h
  obtain ⟨e1,b1,b2,b3⟩:=ih x L k (prl (prg n) (esiz n) l (k + esiz n x)++B) (e2++eb) (by rw [List.length_append,prl_len (prg_len n)];omega) a1
  have hp:=esz_pos n x
  refine ⟨e1++e2,?_,by rw [List.length_append,a2,b2],?_,by omega,?_⟩
  ·show enF L ((prg n x k++prl (prg n) (esiz n) l (k + esiz n x))++B) k=_
   rw [List.append_assoc,b1,List.append_assoc]
  ·show ((e1++e2)++eb).getD (k - k) 0=_
   rw [Nat.sub_self,List.getD_eq_getElem?_getD,List.append_assoc,List.getElem?_append_left (by omega),b3]
   rfl
  ·refine chn_congr (E:=fun p=>(e2++eb).getD (p - (k + esiz n x)) 0) _ _ (fun p hp=>?_) a3
   simp only [List.getD_eq_getElem?_getD]
   rw [List.append_assoc,List.getElem?_append_right (by omega),b2,show p - k - esiz n x=p - (k + esiz n x) by omega]
theorem enP:∀ n,EnP n
 | 0=>fun x=>Empty.elim x
 | n + 1=>fun x L k B eb hL h=>by
  have es:esiz (n + 1) x=1 + suml (x.2.map (esiz n)):=rfl
  rw [es] at hL h ⊢
  obtain ⟨e1,a1,a2,a3⟩:=enL (enP n) x.2 L (k + 1) B eb (by omega) (by rw [show k + 1 + suml (x.2.map (esiz n))=k + (1 + suml (x.2.map (esiz n))) by omega];exact h)
  have hc:=chn_end _ _ a3
  refine ⟨(k + (1 + suml (x.2.map (esiz n)))) :: e1,?_,by simp [a2];omega,by simp⟩
  show enF L (⟨x.1,kds (x.2.map (esiz n)) (k + 1)⟩ :: (prl (prg n) (esiz n) x.2 (k + 1)++B)) k=_
  unfold enF
  rw [a1]
  simp only
  rw [hc]
  simp only [List.cons_append,Option.some.injEq,List.cons.injEq,and_true]
  omega
theorem prg_inOrd (n:Nat) (x:ET n):inOrd (prg n x 0):=by
 obtain ⟨es,h1,h2,h3⟩:=enP n x (esiz n x) 0 [] [] (by simp) rfl
 refine ⟨es,?_,?_⟩
 ·rw [prg_len]
  simpa using h1
 ·rw [prg_len,h3]
  simp
def Eqv:(n:Nat)→ET n→(m:Nat)→ET m→Prop
 | 0,_,_,_=>False
 | _ + 1,_,0,_=>False
 | n + 1,x,m + 1,y=>y.1=x.1∧y.2.length=x.2.length∧∀ i (h:i<x.2.length) (h':i<y.2.length),Eqv n x.2[i] m y.2[i]
theorem kds_get:∀ (l:List Nat) (k i:Nat) (h:i<(kds l k).length),(kds l k)[i]=((k + suml (l.take i):Nat):Int)
 | [],k,i,h=>by simp [kds] at h
 | s :: l,k,0,_=>by simp [kds,suml]
 | s :: l,k,i + 1,h=>by
  simp only [kds,List.getElem_cons_succ]
  rw [kds_get l (k + s) i]
  simp only [List.take_succ_cons,suml]
  congr 1
  omega
theorem prl_seg {n:Nat}:∀ (l:List (ET n)) (k i:Nat) (h:i<l.length),∃ B,(prl (prg n) (esiz n) l k).drop (suml ((l.map (esiz n)).take i))=prg n l[i] (k + suml ((l.map (esiz n)).take i))++B
 | [],k,i,h=>by simp at h
 | x :: l,k,0,_=>⟨_,by simp only [List.map_cons,List.take_zero,suml,List.drop_zero,Nat.add_zero,List.getElem_cons_zero];rfl⟩
 | x :: l,k,i + 1,h=>by
  obtain ⟨B,hB⟩:=prl_seg l (k + esiz n x) i (by simpa using h)
  refine ⟨B,?_⟩
  simp only [List.map_cons,List.take_succ_cons,suml,List.getElem_cons_succ]
  show (prg n x k++prl (prg n) (esiz n) l (k + esiz n x)).drop _=_
  rw [List.drop_append,List.drop_eq_nil_of_le (by rw [prg_len];omega),List.nil_append,prg_len,show esiz n x + suml ((l.map (esiz n)).take i) - esiz n x=suml ((l.map (esiz n)).take i) by omega,hB]
  rw [show k + esiz n x + suml ((l.map (esiz n)).take i)=k + (esiz n x + suml ((l.map (esiz n)).take i)) by omega]
theorem sumt_le:∀ (l:List Nat) (i:Nat) (h:i<l.length),suml (l.take i) + l[i]≤suml l
 | [],i,h=>by simp at h
 | a :: l,0,_=>by simp [suml]
 | a :: l,i + 1,h=>by
  have:=sumt_le l i (by simpa using h)
  simp only [List.take_succ_cons,suml,List.getElem_cons_succ]
  omega
theorem mp_prg {z:Eh}:∀ (n:Nat) (x:ET n) (all B:List Nd) (k f:Nat),all.drop k=prg n x k++B→esiz n x≤1 + f→Eqv n x (f + 1) (mpA z all f k)
 | 0,x,_,_,_,_,_,_=>Empty.elim x
 | n + 1,x,all,B,k,f,h,hf=>by
  have es:esiz (n + 1) x=1 + suml (x.2.map (esiz n)):=rfl
  obtain ⟨g1,g2,g3⟩:=drop_get (d:=ndz z) (show all.drop k=⟨x.1,kds (x.2.map (esiz n)) (k + 1)⟩ :: (prl (prg n) (esiz n) x.2 (k + 1)++B) from h)
  match f with
  | 0 =>
   have hx:x.2=[]:=by
    cases hx:x.2 with
    | nil=>rfl
    | cons y l =>
     rw [es,hx] at hf
     simp only [List.map_cons,suml] at hf
     have:=esz_pos n y
     omega
   refine ⟨by show (all.getD k (ndz z)).h=_;rw [g1],by rw [hx];rfl,fun i h=>by rw [hx] at h;simp at h⟩
  | f + 1 =>
   have e2:(mpA z all (f + 1) k).2=(kds (x.2.map (esiz n)) (k + 1)).map fun j=>mpA z all f j.toNat:=by
    show ((all.getD k (ndz z)).kids.map fun j=>mpA z all f j.toNat)=_
    rw [g1]
   refine ⟨by show (all.getD k (ndz z)).h=_;rw [g1],by rw [e2,List.length_map,kds_len,List.length_map],fun i hi hi'=>?_⟩
   have hk:i<(kds (x.2.map (esiz n)) (k + 1)).length:=by rw [kds_len,List.length_map];exact hi
   have e3:(mpA z all (f + 1) k).2[i]=mpA z all f (k + 1 + suml ((x.2.map (esiz n)).take i)):=by
    rw [List.getElem_of_eq e2 hi',List.getElem_map,kds_get]
    rfl
   rw [e3]
   obtain ⟨B',hB⟩:=prl_seg x.2 (k + 1) i hi
   have hle:=sumt_le (x.2.map (esiz n)) i (by simpa using hi)
   rw [List.getElem_map] at hle
   refine mp_prg n x.2[i] all (B'++B) _ f ?_ (by rw [es] at hf;omega)
   rw [←List.drop_drop,g2,List.drop_append_of_le_length (by rw [prl_len (prg_len n)];have:=esz_pos n x.2[i];omega),hB,List.append_assoc]
theorem prl_mem {α:Type} {P:α→Nat→List Nd} {S:α→Nat} {d:Nd}:∀ (l:List α) (k:Nat),d∈prl P S l k→∃ i,∃ h:i<l.length,∃ j,d∈P l[i] j
 | [],_,h=>by simp [prl] at h
 | x :: l,k,h=>by
  rcases List.mem_append.1 (show d∈P x k++prl P S l (k + S x) from h) with h|h
  ·exact ⟨0,by simp,k,h⟩
  ·obtain ⟨i,hi,j,hj⟩:=prl_mem l _ h
   exact ⟨i + 1,by simp;omega,j,hj⟩
theorem prl_has {α:Type} {P:α→Nat→List Nd} {S:α→Nat}:∀ (l:List α) (k i:Nat) (h:i<l.length),∃ j,∀ d,d∈P l[i] j→d∈prl P S l k
 | [],_,i,h=>by simp at h
 | x :: l,k,0,_=>⟨k,fun d h=>List.mem_append.2 (Or.inl h)⟩
 | x :: l,k,i + 1,h=>by
  obtain ⟨j,hj⟩:=prl_has l (k + S x) i (by simpa using h)
  exact ⟨j,fun d hd=>List.mem_append.2 (Or.inr (hj d hd))⟩
theorem kds_snoc:∀ (l:List Nat) (s k:Nat),kds (l++[s]) k=kds l k++[((k + suml l:Nat):Int)]
 | [],s,k=>by simp [kds,suml]
 | a :: l,s,k=>by
  show (k:Int) :: kds (l++[s]) (k + a)=(k:Int) :: (kds l (k + a)++[((k + (a + suml l):Nat):Int)])
  rw [kds_snoc l s (k + a),Nat.add_assoc]
theorem prl_snoc {α:Type} {P:α→Nat→List Nd} {S:α→Nat}:∀ (l:List α) (x:α) (k:Nat),prl P S (l++[x]) k=prl P S l k++P x (k + suml (l.map S))
 | [],x,k=>by simp [prl,suml]
 | a :: l,x,k=>by
  show P a k++prl P S (l++[x]) (k + S a)=(P a k++prl P S l (k + S a))++P x (k + (S a + suml (l.map S)))
  rw [prl_snoc l x (k + S a),List.append_assoc,Nat.add_assoc]
theorem kEnd_snoc {L:Nat} {E:Nat→Nat} (k:Int):∀ (ks:List Int) (e:Nat),kEnd L E (ks++[k]) e=match kEnd L E ks e with
  | none=>none
  | some e'=>if k=(e':Int)∧e'<L then some (E e') else none
 | [],e=>by simp [kEnd]
 | a :: ks,e=>by
  simp only [List.cons_append,kEnd]
  split
  ·exact kEnd_snoc k ks (E e)
  ·rfl
theorem kEnd_app {L:Nat} {E:Nat→Nat} (b:List Int):∀ (a:List Int) (e:Nat),kEnd L E a e=none→kEnd L E (a++b) e=none
 | [],e,h=>by simp [kEnd] at h
 | k :: a,e,h=>by
  simp only [List.cons_append,kEnd] at h ⊢
  split at h
  ·rename_i hk
   rw [if_pos hk]
   exact kEnd_app b a _ h
  ·rename_i hk
   rw [if_neg hk]
theorem enF_up {L:Nat} {l:List Nd} {i:Nat} (h:enF L (l.drop (i + 1)) (i + 1)=none) (hi:i<l.length):enF L (l.drop i) i=none:=by
 rw [List.drop_eq_getElem_cons hi]
 unfold enF
 rw [h]
theorem enF_none {L:Nat} {l:List Nd}:∀ (i:Nat),i≤l.length→enF L (l.drop i) i=none→enF L l 0=none
 | 0,_,h=>h
 | i + 1,hi,h=>enF_none i (by omega) (enF_up h (by omega))
theorem not_inOrd {l:List Nd} {i:Nat} (hi:i≤l.length) (h:enF l.length (l.drop i) i=none):¬ inOrd l:=by
 rintro ⟨es,h1,_⟩
 rw [enF_none i hi h] at h1
 cases h1
theorem kEnd_mem {L:Nat} {E:Nat→Nat} (a:Nat) (hE:∀ p,a≤p→p<L→p≤E p):∀ (ks:List Int) (e e':Nat),a≤e→kEnd L E ks e=some e'→∀ k∈ks,(a:Int)≤k∧k<(L:Int)
 | [],_,_,_,_,k,hk=>absurd hk (by simp)
 | k :: ks,e,e',ha,h,j,hj=>by
  unfold kEnd at h
  split at h
  ·rename_i hk
   rcases List.mem_cons.1 hj with rfl|hj
   ·omega
   ·exact kEnd_mem a hE ks (E e) e' (by have:=hE e ha hk.2;omega) h j hj
  ·cases h
theorem enF_kids {z:Eh} {all:List Nd}:∀ (l:List Nd) (i:Nat) (es:List Nat),all.drop i=l→i + l.length=all.length→enF all.length l i=some es→∀ j (h:j<l.length),∀ k∈l[j].kids,((i + j:Nat):Int)<k∧k<(all.length:Int)
 | [],i,es,_,_,h,j,hj,_,_=>absurd hj (by simp)
 | n :: l,i,es,hd,hl,h,j,hj,k,hk=>by
  unfold enF at h
  split at h
  ·cases h
  ·rename_i es1 h1
   split at h
   ·cases h
   ·rename_i e h2
    obtain ⟨g1,g2,g3⟩:=drop_get (d:=ndz z) hd
    simp only [List.length_cons] at hl
    match j with
    | 0 =>
     obtain ⟨k1,k2⟩:=enF_ok (z:=z) l (i + 1) es1 g2 (by omega) h1
     have:=kEnd_mem (i + 1) (fun p a b=>by
      have hj:p - (i + 1)<es1.length:=by omega
      have:=(k2 (p - (i + 1)) hj).1
      rw [List.getD_eq_getElem?_getD,List.getElem?_eq_getElem hj]
      simp only [Option.getD_some]
      omega) n.kids (i + 1) e (Nat.le_refl _) h2 k hk
     omega
    | j + 1 =>
     have:=enF_kids (z:=z) l (i + 1) es1 g2 (by omega) h1 j (by simpa using hj) k hk
     omega
theorem inOrd_kids {l:List Nd} (z:Eh) (h:inOrd l) (p:Nat) (hp:p<l.length):∀ k∈l[p].kids,(p:Int)<k∧k<(l.length:Int):=by
 obtain ⟨es,h1,h2⟩:=h
 intro k hk
 have:=enF_kids (z:=z) l 0 es rfl (by omega) h1 p hp k hk
 rw [Nat.zero_add] at this
 exact this
end Lx
end Go.Proofs.YtgicnopppgnjjaaGreatDoor
