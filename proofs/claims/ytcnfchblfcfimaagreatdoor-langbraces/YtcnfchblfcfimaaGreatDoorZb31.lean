/- Merged by program: PsTypes, VxBare, VyBare, VzEvery. -/
import Derived.Test.YtcnfchblfcfimaaGreatDoorZb26
import Derived.Test.YtcnfchblfcfimaaGreatDoorZb11
import Derived.Test.YtcnfchblfcfimaaGreatDoorZb30
set_option linter.unusedSimpArgs false
set_option linter.unusedVariables false
namespace Go.Proofs.YtcnfchblfcfimaaGreatDoor
namespace Lx
def ptO (o:List UInt8):Option Int:=if o=[97,110,121] then some 1 else if o=[110,117,108,108] then some 2 else if o=[98,111,111,108] then some 3 else if o=[110,117,109] then some 4 else if o=[105,110,116] then some 5 else if o=[102,108,111,97,116] then some 6 else if o=[116,101,120,116] then some 7 else if o=[98,121,116,101,115] then some 8 else none
def fdT {m:Nat} (M:List Tk→Sum Int (TT m×List Tk)) (k:Int) (l:List Tk):Sum Int (TT (m + 1)×List Tk):=match wantL [123] l with
 | .inl p=>.inl p
 | .inr l1=>match namedT [58] M l1 with
  | .inl p=>.inl p
  | .inr y=>.inr ((⟨k,y.1.map mkB⟩,y.2.1),y.2.2)
def ltT {m:Nat} (M:List Tk→Sum Int (TT m×List Tk)) (l:List Tk):Sum Int (TT (m + 1)×List Tk):=match wantL [40] l with
 | .inl p=>.inl p
 | .inr l1=>match M l1 with
  | .inl p=>.inl p
  | .inr x=>match wantL [41] x.2 with
   | .inl p=>.inl p
   | .inr l3=>.inr ((⟨9,[]⟩,[x.1]),l3)
def tyT {m:Nat} (M:List Tk→Sum Int (TT m×List Tk)):List Tk→Sum Int (TT (m + 1)×List Tk)
 | []=>.inl 0
 | t :: r =>
  if ownT t=[108,105,115,116] then ltT M r
  else if ownT t=[114,101,99,111,114,100] then fdT M 10 r
  else if ownT t=[117,110,105,111,110] then fdT M 11 r
  else match ptO (ownT t) with
   | some k=>.inr ((⟨k,[]⟩,[]),r)
   | none=>.inl t.p
def tyf:(f:Nat)→List Tk→Sum Int (TT f×List Tk)
 | 0,_=>.inl 0
 | f + 1,l=>tyT (tyf f) l
theorem fd_nx {m:Nat} {M:List Tk→Sum Int (TT m×List Tk)} (hM:Gd M) (k:Int):Gd (fdT M k):=by
 intro l x h e
 unfold fdT at e
 split at e
 ·cases e
 ·rename_i l1 e1
  have n1:=want_nx h (by simp) e1
  split at e
  ·cases e
  ·rename_i y ey
   cases e
   exact n1.trans (named_nx (by simp) hM n1.1 ey)
theorem lt_nx {m:Nat} {M:List Tk→Sum Int (TT m×List Tk)} (hM:Gd M):Gd (ltT M):=by
 intro l x h e
 unfold ltT at e
 split at e
 ·cases e
 ·rename_i l1 e1
  have n1:=want_nx h (by simp) e1
  split at e
  ·cases e
  ·rename_i y ey
   have n2:=hM _ _ n1.1 ey
   split at e
   ·cases e
   ·rename_i l3 e3
    cases e
    exact (n1.trans n2).trans (want_nx n2.1 (by simp) e3)
theorem tyT_nx {m:Nat} {M:List Tk→Sum Int (TT m×List Tk)} (hM:Gd M):Gd (tyT M):=by
 intro l x h e
 obtain ⟨t,r,rfl⟩:=h.cons
 have hw:¬ t.w=0:=by
  intro h0
  simp [tyT,h0,ownT,ptO] at e
 have hr:=h.tail hw
 simp only [tyT] at e
 split at e
 ·exact (lt_nx hM _ _ hr e).from
 ·split at e
  ·exact (fd_nx hM 10 _ _ hr e).from
  ·split at e
   ·exact (fd_nx hM 11 _ _ hr e).from
   ·split at e
    ·cases e
     exact ⟨hr,by simp⟩
    ·cases e
theorem tyf_nx:∀ f,Gd (tyf f)
 | 0=>fun _ _ _ e=>by cases e
 | f + 1=>tyT_nx (tyf_nx f)
def GT:(n:Nat)→TT n→Prop
 | 0,_=>True
 | n + 1,x=>x.1.names.length≤100000∧(∀ s∈x.1.names,s.size≤281474976710656)∧x.2.length≤100000∧∀ y∈x.2,GT n y
theorem tsiz_pos:∀ (n:Nat) (x:TT n),1≤tsiz n x
 | 0,x=>Empty.elim x
 | n + 1,x=>by simp only [tsiz];omega
def Ld {m:Nat} (S:List Tk→Sum Int (TT m×List Tk)):Prop:=∀ l x,Okl l→l.length≤100000→S l=.inr x→GT m x.1∧tsiz m x.1 + x.2.length≤l.length
theorem nt_ld {m0:Nat} {m:List UInt8} (hm:m≠[]) {I:List Tk→Sum Int (TT m0×List Tk)} (hI:Gd I) (hK:Ld I):∀ (g:Nat) (ns:List (List UInt8)) (xs:List (TT m0)) (l:List Tk) (y:List (List UInt8)×List (TT m0)×List Tk),Okl l→l.length≤100000→(∀ x∈xs,GT m0 x)→(∀ s∈ns,s.length≤70000)→nmT m I g ns xs l=.inr y→(∀ x∈y.2.1,GT m0 x)∧(∀ s∈y.1,s.length≤70000)∧y.1.length + y.2.2.length≤ns.length + l.length∧y.2.1.length + y.2.2.length≤xs.length + l.length∧suml (y.2.1.map (tsiz m0)) + y.2.2.length + 1≤suml (xs.map (tsiz m0)) + l.length
 | 0,_,_,_,_,_,_,_,_,e=>by cases e
 | g + 1,ns,xs,l,y,h,hl,hx,hs,e=>by
  unfold nmT at e
  split at e
  ·cases e
  ·rename_i s es
   have n1:=name_nx h es
   have hsl:s.1.length≤70000:=by
    obtain ⟨t,r,rfl⟩:=h.cons
    simp only [nameL,nameT] at es
    split at es
    ·cases es;exact h.short
    ·cases es
   split at e
   ·cases e
   ·rename_i l2 e2
    have n2:=want_nx n1.1 hm e2
    split at e
    ·cases e
    ·rename_i x ex
     have n3:=hI _ _ n2.1 ex
     obtain ⟨g1,g2⟩:=hK _ _ n2.1 (by have:=n1.2;have:=n2.2;omega) ex
     have hn:=has_nx (m:=[125]) n3.1 (by simp)
     have hxs:∀ z∈xs++[x.1],GT m0 z:=fun z hz=>by
      rcases List.mem_append.1 hz with h|h
      ·exact hx z h
      ·rw [List.mem_singleton.1 h];exact g1
     have hns:∀ z∈ns++[s.1],z.length≤70000:=fun z hz=>by
      rcases List.mem_append.1 hz with h|h
      ·exact hs z h
      ·rw [List.mem_singleton.1 h];exact hsl
     have a1:=n1.2
     have a2:=n2.2
     have a3:=n3.2
     split at e
     ·rename_i k
      have a4:=(hn.1 k).2
      cases e
      refine ⟨hxs,hns,?_,?_,?_⟩
      ·simp only [List.length_append,List.length_cons,List.length_nil];omega
      ·simp only [List.length_append,List.length_cons,List.length_nil];omega
      ·simp only [List.map_append,List.map_cons,List.map_nil,suml_app,suml];omega
     ·rename_i k
      have k':(hasL [125] x.2).1=false:=by simpa using k
      rw [hn.2 k'] at e
      split at e
      ·cases e
      ·rename_i l5 e5
       have n5:=want_nx n3.1 (by simp) e5
       have a5:=n5.2
       obtain ⟨q1,q2,q3,q4,q5⟩:=nt_ld hm hI hK g _ _ _ _ n5.1 (by omega) hxs hns e
       refine ⟨q1,q2,?_,?_,?_⟩
       ·simp only [List.length_append,List.length_cons,List.length_nil] at q3;omega
       ·simp only [List.length_append,List.length_cons,List.length_nil] at q4;omega
       ·simp only [List.map_append,List.map_cons,List.map_nil,suml_app,suml] at q5;omega
theorem fd_ld {m:Nat} {M:List Tk→Sum Int (TT m×List Tk)} (hM:Gd M) (hK:Ld M) (k:Int):Ld (fdT M k):=by
 intro l x h hl e
 unfold fdT at e
 split at e
 ·cases e
 ·rename_i l1 e1
  have n1:=want_nx h (by simp) e1
  have a1:=n1.2
  split at e
  ·cases e
  ·rename_i y ey
   cases e
   have hn:=has_nx (m:=[125]) n1.1 (by simp)
   unfold namedT at ey
   split at ey
   ·rename_i k
    have a:=(hn.1 k).2
    cases ey
    exact ⟨⟨Nat.zero_le _,fun s hs=>absurd hs (by simp),Nat.zero_le _,fun y hy=>absurd hy (by simp)⟩,by show 1 + 0 + (hasL [125] l1).2.length≤_;omega⟩
   ·rename_i k
    have k':(hasL [125] l1).1=false:=by simpa using k
    rw [hn.2 k'] at ey
    obtain ⟨q1,q2,q3,q4,q5⟩:=nt_ld (by simp) hM hK _ _ _ _ _ n1.1 (by omega) (fun z hz=>absurd hz (by simp)) (fun z hz=>absurd hz (by simp)) ey
    simp only [List.map_nil,suml,List.length_nil] at q3 q4 q5
    refine ⟨⟨?_,fun s hs=>?_,?_,q1⟩,?_⟩
    ·show (y.1.map mkB).length≤_
     rw [List.length_map];omega
    ·obtain ⟨z,hz,rfl⟩:=List.mem_map.1 (show s∈y.1.map mkB from hs)
     rw [mkB_size]
     have:=q2 z hz
     omega
    ·show y.2.1.length≤_;omega
    ·show 1 + suml (y.2.1.map (tsiz m)) + y.2.2.length≤_;omega
theorem lt_ld {m:Nat} {M:List Tk→Sum Int (TT m×List Tk)} (hM:Gd M) (hK:Ld M):Ld (ltT M):=by
 intro l x h hl e
 unfold ltT at e
 split at e
 ·cases e
 ·rename_i l1 e1
  have n1:=want_nx h (by simp) e1
  have a1:=n1.2
  split at e
  ·cases e
  ·rename_i y ey
   have n2:=hM _ _ n1.1 ey
   obtain ⟨g1,g2⟩:=hK _ _ n1.1 (by omega) ey
   split at e
   ·cases e
   ·rename_i l3 e3
    cases e
    have a3:=(want_nx n2.1 (by simp) e3).2
    exact ⟨⟨Nat.zero_le _,fun s hs=>absurd hs (by simp),by simp,fun z hz=>by rw [List.mem_singleton.1 hz];exact g1⟩,by show 1 + (tsiz m y.1 + 0) + l3.length≤_;omega⟩
theorem tyT_ld {m:Nat} {M:List Tk→Sum Int (TT m×List Tk)} (hM:Gd M) (hK:Ld M):Ld (tyT M):=by
 intro l x h hl e
 obtain ⟨t,r,rfl⟩:=h.cons
 have hw:¬ t.w=0:=by
  intro h0
  simp [tyT,h0,ownT,ptO] at e
 have hr:=h.tail hw
 have hl':r.length≤100000:=by simp at hl;omega
 simp only [tyT] at e
 simp only [List.length_cons]
 split at e
 ·obtain ⟨g1,g2⟩:=lt_ld hM hK _ _ hr hl' e
  exact ⟨g1,by omega⟩
 ·split at e
  ·obtain ⟨g1,g2⟩:=fd_ld hM hK 10 _ _ hr hl' e
   exact ⟨g1,by omega⟩
  ·split at e
   ·obtain ⟨g1,g2⟩:=fd_ld hM hK 11 _ _ hr hl' e
    exact ⟨g1,by omega⟩
   ·split at e
    ·rename_i k _
     cases e
     exact ⟨⟨Nat.zero_le _,fun s hs=>absurd hs (by simp),Nat.zero_le _,fun y hy=>absurd hy (by simp)⟩,by show 1 + 0 + r.length≤_;omega⟩
    ·cases e
theorem tyf_ld:∀ f,Ld (tyf f)
 | 0=>fun _ _ _ _ e=>by cases e
 | f + 1=>tyT_ld (tyf_nx f) (tyf_ld f)
end Lx
end Go.Proofs.YtcnfchblfcfimaaGreatDoor
namespace Go.Proofs.YtcnfchblfcfimaaGreatDoor
namespace Lx
open Go.RowKit
def VZ:(n:Nat)→VT n→Prop
 | 0,_=>False
 | _ + 1,v=>v=(zr 0,[])
theorem tl0 {a:ByteArray} (h:¬ a=⟨#[]⟩):¬ a.toList=[]:=by
 intro e
 apply h
 have:a.data.toList=[]:=by rw [←ByteArray.toList_eq];exact e
 exact ByteArray.ext (Array.toList_inj.1 (by simpa using this))
set_option maxHeartbeats 2000000 in
set_option maxRecDepth 100000 in
theorem bare_1 (n m:Nat) (nm:ByteArray) (nms:List ByteArray) (vh:Hd) (vl:List (VT m)) (l:List (ET n)) (q:Sl) (w:World) (hr:RE (n + 1) w (⟨1,nm,nms,m + 1,(vh,vl)⟩,l) q) :
  Calls Tryz.prog 37 #[.agg (ecl ⟨1,nm,nms,m + 1,(vh,vl)⟩ q)] w fun e w'=>TB (nm=⟨#[]⟩∧nms=[]∧l=[]∧VZ (m + 1) (vh,vl)) w e w':=by
 obtain ⟨al,cl,hle,hc1,hc2⟩:=hr.tl.len
 obtain ⟨an,cn,hne,hd1,hd2⟩:=hr.1.len
 obtain ⟨x1,y1,z1,x2,y2,z2,x3,y3,z3,x4,y4,z4,hqs⟩:=hr.shape
 subst hqs
 obtain ⟨rfl,rfl,rfl⟩:=Value.slice.inj hle
 obtain ⟨rfl,rfl,rfl⟩:=Value.slice.inj hne
 clear hle hne hc1 hc2 hd1 hd2
 have hE:=hide (fun o=>equal_any (m + 1) (vh,vl) (zr 0,[]) (.slice x3 y3 z3) (.slice x4 y4 z4) (.slice none 0 0) (.slice none 0 0) (w.alloc o) (hr.2.1.below (below_al (o:=o) (Below.refl _ _))) (rd_zero m _ 0))
 show Calls _ _ #[.agg #[.int .i64 1,.string nm,.slice x1 nms.length z1,.slice x2 l.length z2,.int .i64 vh.kind,.bool vh.flag,.bool vh.neg,.string vh.dig,.int .i64 vh.exp,.int .u64 vh.bits,.string vh.text,.slice x3 y3 z3,.slice x4 y4 z4]] _ _
 clear hr
 by_cases h1:nm=⟨#[]⟩
 ·have E1:=hide h1
  rw [h1]
  clear h1
  by_cases h2:nms=[]
  ·have E2:=hide h2
   have zE2:nms.length=0:=by rw [h2];rfl
   rw [zE2]
   clear zE2 h2
   by_cases h3:l=[]
   ·have E3:=hide h3
    have zE3:l.length=0:=by rw [h3];rfl
    rw [zE3]
    clear zE3 h3
    go_enter Tryz.func37, Tryz.ntmps37
    go_wp2_with (go_at_call 82;refine (hE.out _).mono ?_;rintro e w1 ⟨b,rfl,hT,hb1⟩)
    go_ret
    exact ⟨b,rfl,(show Hid _ from ⟨fun q=>⟨(by first|trivial|rfl|exact E1.out),E2.out,E3.out,hT.1 q⟩,fun q=>hT.2 q.2.2.2⟩),below_then (below_al (Below.refl _ _)) hb1⟩
   ·have HE3:=hide h3
    go_enter Tryz.func37, Tryz.ntmps37
    go_wp2_with fail
    go_ret
    exact TB.no (fun q=>HE3.out q.2.2.1) (below_al (Below.refl _ _))
  ·have HE2:=hide h2
   go_enter Tryz.func37, Tryz.ntmps37
   go_wp2_with fail
   go_ret
   exact TB.no (fun q=>HE2.out q.2.1) (below_al (Below.refl _ _))
 ·have b1:¬ nm.toList=[]:=tl0 h1
  have H1:=hide h1
  clear h1
  go_enter Tryz.func37, Tryz.ntmps37
  go_wp2_with fail
  go_ret
  exact TB.no (fun q=>H1.out q.1) (below_al (Below.refl _ _))
set_option maxHeartbeats 2000000 in
set_option maxRecDepth 100000 in
theorem bare_8 (n m:Nat) (nm:ByteArray) (nms:List ByteArray) (vh:Hd) (vl:List (VT m)) (l:List (ET n)) (q:Sl) (w:World) (hr:RE (n + 1) w (⟨8,nm,nms,m + 1,(vh,vl)⟩,l) q) :
  Calls Tryz.prog 37 #[.agg (ecl ⟨8,nm,nms,m + 1,(vh,vl)⟩ q)] w fun e w'=>TB (nm=⟨#[]⟩∧nms=[]∧l=[]∧VZ (m + 1) (vh,vl)) w e w':=by
 obtain ⟨al,cl,hle,hc1,hc2⟩:=hr.tl.len
 obtain ⟨an,cn,hne,hd1,hd2⟩:=hr.1.len
 obtain ⟨x1,y1,z1,x2,y2,z2,x3,y3,z3,x4,y4,z4,hqs⟩:=hr.shape
 subst hqs
 obtain ⟨rfl,rfl,rfl⟩:=Value.slice.inj hle
 obtain ⟨rfl,rfl,rfl⟩:=Value.slice.inj hne
 clear hle hne hc1 hc2 hd1 hd2
 have hE:=hide (fun o=>equal_any (m + 1) (vh,vl) (zr 0,[]) (.slice x3 y3 z3) (.slice x4 y4 z4) (.slice none 0 0) (.slice none 0 0) (w.alloc o) (hr.2.1.below (below_al (o:=o) (Below.refl _ _))) (rd_zero m _ 0))
 show Calls _ _ #[.agg #[.int .i64 8,.string nm,.slice x1 nms.length z1,.slice x2 l.length z2,.int .i64 vh.kind,.bool vh.flag,.bool vh.neg,.string vh.dig,.int .i64 vh.exp,.int .u64 vh.bits,.string vh.text,.slice x3 y3 z3,.slice x4 y4 z4]] _ _
 clear hr
 by_cases h1:nm=⟨#[]⟩
 ·have E1:=hide h1
  rw [h1]
  clear h1
  by_cases h2:nms=[]
  ·have E2:=hide h2
   have zE2:nms.length=0:=by rw [h2];rfl
   rw [zE2]
   clear zE2 h2
   by_cases h3:l=[]
   ·have E3:=hide h3
    have zE3:l.length=0:=by rw [h3];rfl
    rw [zE3]
    clear zE3 h3
    go_enter Tryz.func37, Tryz.ntmps37
    go_wp2_with (go_at_call 82;refine (hE.out _).mono ?_;rintro e w1 ⟨b,rfl,hT,hb1⟩)
    go_ret
    exact ⟨b,rfl,(show Hid _ from ⟨fun q=>⟨(by first|trivial|rfl|exact E1.out),E2.out,E3.out,hT.1 q⟩,fun q=>hT.2 q.2.2.2⟩),below_then (below_al (Below.refl _ _)) hb1⟩
   ·have HE3:=hide h3
    go_enter Tryz.func37, Tryz.ntmps37
    go_wp2_with fail
    go_ret
    exact TB.no (fun q=>HE3.out q.2.2.1) (below_al (Below.refl _ _))
  ·have HE2:=hide h2
   go_enter Tryz.func37, Tryz.ntmps37
   go_wp2_with fail
   go_ret
   exact TB.no (fun q=>HE2.out q.2.1) (below_al (Below.refl _ _))
 ·have b1:¬ nm.toList=[]:=tl0 h1
  have H1:=hide h1
  clear h1
  go_enter Tryz.func37, Tryz.ntmps37
  go_wp2_with fail
  go_ret
  exact TB.no (fun q=>H1.out q.1) (below_al (Below.refl _ _))
set_option maxHeartbeats 2000000 in
set_option maxRecDepth 100000 in
theorem bare_9 (n m:Nat) (nm:ByteArray) (nms:List ByteArray) (vh:Hd) (vl:List (VT m)) (l:List (ET n)) (q:Sl) (w:World) (hr:RE (n + 1) w (⟨9,nm,nms,m + 1,(vh,vl)⟩,l) q) :
  Calls Tryz.prog 37 #[.agg (ecl ⟨9,nm,nms,m + 1,(vh,vl)⟩ q)] w fun e w'=>TB (nm=⟨#[]⟩∧nms=[]∧l=[]∧VZ (m + 1) (vh,vl)) w e w':=by
 obtain ⟨al,cl,hle,hc1,hc2⟩:=hr.tl.len
 obtain ⟨an,cn,hne,hd1,hd2⟩:=hr.1.len
 obtain ⟨x1,y1,z1,x2,y2,z2,x3,y3,z3,x4,y4,z4,hqs⟩:=hr.shape
 subst hqs
 obtain ⟨rfl,rfl,rfl⟩:=Value.slice.inj hle
 obtain ⟨rfl,rfl,rfl⟩:=Value.slice.inj hne
 clear hle hne hc1 hc2 hd1 hd2
 have hE:=hide (fun o=>equal_any (m + 1) (vh,vl) (zr 0,[]) (.slice x3 y3 z3) (.slice x4 y4 z4) (.slice none 0 0) (.slice none 0 0) (w.alloc o) (hr.2.1.below (below_al (o:=o) (Below.refl _ _))) (rd_zero m _ 0))
 show Calls _ _ #[.agg #[.int .i64 9,.string nm,.slice x1 nms.length z1,.slice x2 l.length z2,.int .i64 vh.kind,.bool vh.flag,.bool vh.neg,.string vh.dig,.int .i64 vh.exp,.int .u64 vh.bits,.string vh.text,.slice x3 y3 z3,.slice x4 y4 z4]] _ _
 clear hr
 by_cases h1:nm=⟨#[]⟩
 ·have E1:=hide h1
  rw [h1]
  clear h1
  by_cases h2:nms=[]
  ·have E2:=hide h2
   have zE2:nms.length=0:=by rw [h2];rfl
   rw [zE2]
   clear zE2 h2
   by_cases h3:l=[]
   ·have E3:=hide h3
    have zE3:l.length=0:=by rw [h3];rfl
    rw [zE3]
    clear zE3 h3
    go_enter Tryz.func37, Tryz.ntmps37
    go_wp2_with (go_at_call 82;refine (hE.out _).mono ?_;rintro e w1 ⟨b,rfl,hT,hb1⟩)
    go_ret
    exact ⟨b,rfl,(show Hid _ from ⟨fun q=>⟨(by first|trivial|rfl|exact E1.out),E2.out,E3.out,hT.1 q⟩,fun q=>hT.2 q.2.2.2⟩),below_then (below_al (Below.refl _ _)) hb1⟩
   ·have HE3:=hide h3
    go_enter Tryz.func37, Tryz.ntmps37
    go_wp2_with fail
    go_ret
    exact TB.no (fun q=>HE3.out q.2.2.1) (below_al (Below.refl _ _))
  ·have HE2:=hide h2
   go_enter Tryz.func37, Tryz.ntmps37
   go_wp2_with fail
   go_ret
   exact TB.no (fun q=>HE2.out q.2.1) (below_al (Below.refl _ _))
 ·have b1:¬ nm.toList=[]:=tl0 h1
  have H1:=hide h1
  clear h1
  go_enter Tryz.func37, Tryz.ntmps37
  go_wp2_with fail
  go_ret
  exact TB.no (fun q=>H1.out q.1) (below_al (Below.refl _ _))
set_option maxHeartbeats 2000000 in
set_option maxRecDepth 100000 in
theorem bare_10 (n m:Nat) (nm:ByteArray) (nms:List ByteArray) (vh:Hd) (vl:List (VT m)) (l:List (ET n)) (q:Sl) (w:World) (hr:RE (n + 1) w (⟨10,nm,nms,m + 1,(vh,vl)⟩,l) q) :
  Calls Tryz.prog 37 #[.agg (ecl ⟨10,nm,nms,m + 1,(vh,vl)⟩ q)] w fun e w'=>TB (nm=⟨#[]⟩∧nms=[]∧l=[]∧VZ (m + 1) (vh,vl)) w e w':=by
 obtain ⟨al,cl,hle,hc1,hc2⟩:=hr.tl.len
 obtain ⟨an,cn,hne,hd1,hd2⟩:=hr.1.len
 obtain ⟨x1,y1,z1,x2,y2,z2,x3,y3,z3,x4,y4,z4,hqs⟩:=hr.shape
 subst hqs
 obtain ⟨rfl,rfl,rfl⟩:=Value.slice.inj hle
 obtain ⟨rfl,rfl,rfl⟩:=Value.slice.inj hne
 clear hle hne hc1 hc2 hd1 hd2
 have hE:=hide (fun o=>equal_any (m + 1) (vh,vl) (zr 0,[]) (.slice x3 y3 z3) (.slice x4 y4 z4) (.slice none 0 0) (.slice none 0 0) (w.alloc o) (hr.2.1.below (below_al (o:=o) (Below.refl _ _))) (rd_zero m _ 0))
 show Calls _ _ #[.agg #[.int .i64 10,.string nm,.slice x1 nms.length z1,.slice x2 l.length z2,.int .i64 vh.kind,.bool vh.flag,.bool vh.neg,.string vh.dig,.int .i64 vh.exp,.int .u64 vh.bits,.string vh.text,.slice x3 y3 z3,.slice x4 y4 z4]] _ _
 clear hr
 by_cases h1:nm=⟨#[]⟩
 ·have E1:=hide h1
  rw [h1]
  clear h1
  by_cases h2:nms=[]
  ·have E2:=hide h2
   have zE2:nms.length=0:=by rw [h2];rfl
   rw [zE2]
   clear zE2 h2
   by_cases h3:l=[]
   ·have E3:=hide h3
    have zE3:l.length=0:=by rw [h3];rfl
    rw [zE3]
    clear zE3 h3
    go_enter Tryz.func37, Tryz.ntmps37
    go_wp2_with (go_at_call 82;refine (hE.out _).mono ?_;rintro e w1 ⟨b,rfl,hT,hb1⟩)
    go_ret
    exact ⟨b,rfl,(show Hid _ from ⟨fun q=>⟨(by first|trivial|rfl|exact E1.out),E2.out,E3.out,hT.1 q⟩,fun q=>hT.2 q.2.2.2⟩),below_then (below_al (Below.refl _ _)) hb1⟩
   ·have HE3:=hide h3
    go_enter Tryz.func37, Tryz.ntmps37
    go_wp2_with fail
    go_ret
    exact TB.no (fun q=>HE3.out q.2.2.1) (below_al (Below.refl _ _))
  ·have HE2:=hide h2
   go_enter Tryz.func37, Tryz.ntmps37
   go_wp2_with fail
   go_ret
   exact TB.no (fun q=>HE2.out q.2.1) (below_al (Below.refl _ _))
 ·have b1:¬ nm.toList=[]:=tl0 h1
  have H1:=hide h1
  clear h1
  go_enter Tryz.func37, Tryz.ntmps37
  go_wp2_with fail
  go_ret
  exact TB.no (fun q=>H1.out q.1) (below_al (Below.refl _ _))
set_option maxHeartbeats 2000000 in
set_option maxRecDepth 100000 in
theorem bare_11 (n m:Nat) (nm:ByteArray) (nms:List ByteArray) (vh:Hd) (vl:List (VT m)) (l:List (ET n)) (q:Sl) (w:World) (hr:RE (n + 1) w (⟨11,nm,nms,m + 1,(vh,vl)⟩,l) q) :
  Calls Tryz.prog 37 #[.agg (ecl ⟨11,nm,nms,m + 1,(vh,vl)⟩ q)] w fun e w'=>TB (nm=⟨#[]⟩∧nms=[]∧l=[]∧VZ (m + 1) (vh,vl)) w e w':=by
 obtain ⟨al,cl,hle,hc1,hc2⟩:=hr.tl.len
 obtain ⟨an,cn,hne,hd1,hd2⟩:=hr.1.len
 obtain ⟨x1,y1,z1,x2,y2,z2,x3,y3,z3,x4,y4,z4,hqs⟩:=hr.shape
 subst hqs
 obtain ⟨rfl,rfl,rfl⟩:=Value.slice.inj hle
 obtain ⟨rfl,rfl,rfl⟩:=Value.slice.inj hne
 clear hle hne hc1 hc2 hd1 hd2
 have hE:=hide (fun o=>equal_any (m + 1) (vh,vl) (zr 0,[]) (.slice x3 y3 z3) (.slice x4 y4 z4) (.slice none 0 0) (.slice none 0 0) (w.alloc o) (hr.2.1.below (below_al (o:=o) (Below.refl _ _))) (rd_zero m _ 0))
 show Calls _ _ #[.agg #[.int .i64 11,.string nm,.slice x1 nms.length z1,.slice x2 l.length z2,.int .i64 vh.kind,.bool vh.flag,.bool vh.neg,.string vh.dig,.int .i64 vh.exp,.int .u64 vh.bits,.string vh.text,.slice x3 y3 z3,.slice x4 y4 z4]] _ _
 clear hr
 by_cases h1:nm=⟨#[]⟩
 ·have E1:=hide h1
  rw [h1]
  clear h1
  by_cases h2:nms=[]
  ·have E2:=hide h2
   have zE2:nms.length=0:=by rw [h2];rfl
   rw [zE2]
   clear zE2 h2
   by_cases h3:l=[]
   ·have E3:=hide h3
    have zE3:l.length=0:=by rw [h3];rfl
    rw [zE3]
    clear zE3 h3
    go_enter Tryz.func37, Tryz.ntmps37
    go_wp2_with (go_at_call 82;refine (hE.out _).mono ?_;rintro e w1 ⟨b,rfl,hT,hb1⟩)
    go_ret
    exact ⟨b,rfl,(show Hid _ from ⟨fun q=>⟨(by first|trivial|rfl|exact E1.out),E2.out,E3.out,hT.1 q⟩,fun q=>hT.2 q.2.2.2⟩),below_then (below_al (Below.refl _ _)) hb1⟩
   ·have HE3:=hide h3
    go_enter Tryz.func37, Tryz.ntmps37
    go_wp2_with fail
    go_ret
    exact TB.no (fun q=>HE3.out q.2.2.1) (below_al (Below.refl _ _))
  ·have HE2:=hide h2
   go_enter Tryz.func37, Tryz.ntmps37
   go_wp2_with fail
   go_ret
   exact TB.no (fun q=>HE2.out q.2.1) (below_al (Below.refl _ _))
 ·have b1:¬ nm.toList=[]:=tl0 h1
  have H1:=hide h1
  clear h1
  go_enter Tryz.func37, Tryz.ntmps37
  go_wp2_with fail
  go_ret
  exact TB.no (fun q=>H1.out q.1) (below_al (Below.refl _ _))
set_option maxHeartbeats 2000000 in
set_option maxRecDepth 100000 in
theorem bare_2 (n m:Nat) (nm:ByteArray) (nms:List ByteArray) (vh:Hd) (vl:List (VT m)) (l:List (ET n)) (q:Sl) (w:World) (hr:RE (n + 1) w (⟨2,nm,nms,m + 1,(vh,vl)⟩,l) q) :
  Calls Tryz.prog 37 #[.agg (ecl ⟨2,nm,nms,m + 1,(vh,vl)⟩ q)] w fun e w'=>TB (nms=[]∧l=[]∧VZ (m + 1) (vh,vl)) w e w':=by
 obtain ⟨al,cl,hle,hc1,hc2⟩:=hr.tl.len
 obtain ⟨an,cn,hne,hd1,hd2⟩:=hr.1.len
 obtain ⟨x1,y1,z1,x2,y2,z2,x3,y3,z3,x4,y4,z4,hqs⟩:=hr.shape
 subst hqs
 obtain ⟨rfl,rfl,rfl⟩:=Value.slice.inj hle
 obtain ⟨rfl,rfl,rfl⟩:=Value.slice.inj hne
 clear hle hne hc1 hc2 hd1 hd2
 have hE:=hide (fun o=>equal_any (m + 1) (vh,vl) (zr 0,[]) (.slice x3 y3 z3) (.slice x4 y4 z4) (.slice none 0 0) (.slice none 0 0) (w.alloc o) (hr.2.1.below (below_al (o:=o) (Below.refl _ _))) (rd_zero m _ 0))
 show Calls _ _ #[.agg #[.int .i64 2,.string nm,.slice x1 nms.length z1,.slice x2 l.length z2,.int .i64 vh.kind,.bool vh.flag,.bool vh.neg,.string vh.dig,.int .i64 vh.exp,.int .u64 vh.bits,.string vh.text,.slice x3 y3 z3,.slice x4 y4 z4]] _ _
 clear hr
 by_cases h2:nms=[]
 ·have E2:=hide h2
  have zE2:nms.length=0:=by rw [h2];rfl
  rw [zE2]
  clear zE2 h2
  by_cases h3:l=[]
  ·have E3:=hide h3
   have zE3:l.length=0:=by rw [h3];rfl
   rw [zE3]
   clear zE3 h3
   go_enter Tryz.func37, Tryz.ntmps37
   go_wp2_with (go_at_call 82;refine (hE.out _).mono ?_;rintro e w1 ⟨b,rfl,hT,hb1⟩)
   go_ret
   exact ⟨b,rfl,(show Hid _ from ⟨fun q=>⟨E2.out,E3.out,hT.1 q⟩,fun q=>hT.2 q.2.2⟩),below_then (below_al (Below.refl _ _)) hb1⟩
  ·have HE3:=hide h3
   go_enter Tryz.func37, Tryz.ntmps37
   go_wp2_with fail
   go_ret
   exact TB.no (fun q=>HE3.out q.2.1) (below_al (Below.refl _ _))
 ·have HE2:=hide h2
  go_enter Tryz.func37, Tryz.ntmps37
  go_wp2_with fail
  go_ret
  exact TB.no (fun q=>HE2.out q.1) (below_al (Below.refl _ _))
set_option maxHeartbeats 2000000 in
set_option maxRecDepth 100000 in
theorem bare_5 (n m:Nat) (nm:ByteArray) (nms:List ByteArray) (vh:Hd) (vl:List (VT m)) (l:List (ET n)) (q:Sl) (w:World) (hr:RE (n + 1) w (⟨5,nm,nms,m + 1,(vh,vl)⟩,l) q) :
  Calls Tryz.prog 37 #[.agg (ecl ⟨5,nm,nms,m + 1,(vh,vl)⟩ q)] w fun e w'=>TB (nms=[]∧l=[]∧VZ (m + 1) (vh,vl)) w e w':=by
 obtain ⟨al,cl,hle,hc1,hc2⟩:=hr.tl.len
 obtain ⟨an,cn,hne,hd1,hd2⟩:=hr.1.len
 obtain ⟨x1,y1,z1,x2,y2,z2,x3,y3,z3,x4,y4,z4,hqs⟩:=hr.shape
 subst hqs
 obtain ⟨rfl,rfl,rfl⟩:=Value.slice.inj hle
 obtain ⟨rfl,rfl,rfl⟩:=Value.slice.inj hne
 clear hle hne hc1 hc2 hd1 hd2
 have hE:=hide (fun o=>equal_any (m + 1) (vh,vl) (zr 0,[]) (.slice x3 y3 z3) (.slice x4 y4 z4) (.slice none 0 0) (.slice none 0 0) (w.alloc o) (hr.2.1.below (below_al (o:=o) (Below.refl _ _))) (rd_zero m _ 0))
 show Calls _ _ #[.agg #[.int .i64 5,.string nm,.slice x1 nms.length z1,.slice x2 l.length z2,.int .i64 vh.kind,.bool vh.flag,.bool vh.neg,.string vh.dig,.int .i64 vh.exp,.int .u64 vh.bits,.string vh.text,.slice x3 y3 z3,.slice x4 y4 z4]] _ _
 clear hr
 by_cases h2:nms=[]
 ·have E2:=hide h2
  have zE2:nms.length=0:=by rw [h2];rfl
  rw [zE2]
  clear zE2 h2
  by_cases h3:l=[]
  ·have E3:=hide h3
   have zE3:l.length=0:=by rw [h3];rfl
   rw [zE3]
   clear zE3 h3
   go_enter Tryz.func37, Tryz.ntmps37
   go_wp2_with (go_at_call 82;refine (hE.out _).mono ?_;rintro e w1 ⟨b,rfl,hT,hb1⟩)
   go_ret
   exact ⟨b,rfl,(show Hid _ from ⟨fun q=>⟨E2.out,E3.out,hT.1 q⟩,fun q=>hT.2 q.2.2⟩),below_then (below_al (Below.refl _ _)) hb1⟩
  ·have HE3:=hide h3
   go_enter Tryz.func37, Tryz.ntmps37
   go_wp2_with fail
   go_ret
   exact TB.no (fun q=>HE3.out q.2.1) (below_al (Below.refl _ _))
 ·have HE2:=hide h2
  go_enter Tryz.func37, Tryz.ntmps37
  go_wp2_with fail
  go_ret
  exact TB.no (fun q=>HE2.out q.1) (below_al (Below.refl _ _))
set_option maxHeartbeats 2000000 in
set_option maxRecDepth 100000 in
theorem bare_3 (n m:Nat) (nm:ByteArray) (nms:List ByteArray) (vh:Hd) (vl:List (VT m)) (l:List (ET n)) (q:Sl) (w:World) (hr:RE (n + 1) w (⟨3,nm,nms,m + 1,(vh,vl)⟩,l) q) :
  Calls Tryz.prog 37 #[.agg (ecl ⟨3,nm,nms,m + 1,(vh,vl)⟩ q)] w fun e w'=>TB (nm=⟨#[]⟩∧VZ (m + 1) (vh,vl)) w e w':=by
 obtain ⟨al,cl,hle,hc1,hc2⟩:=hr.tl.len
 obtain ⟨an,cn,hne,hd1,hd2⟩:=hr.1.len
 obtain ⟨x1,y1,z1,x2,y2,z2,x3,y3,z3,x4,y4,z4,hqs⟩:=hr.shape
 subst hqs
 obtain ⟨rfl,rfl,rfl⟩:=Value.slice.inj hle
 obtain ⟨rfl,rfl,rfl⟩:=Value.slice.inj hne
 clear hle hne hc1 hc2 hd1 hd2
 have hE:=hide (fun o=>equal_any (m + 1) (vh,vl) (zr 0,[]) (.slice x3 y3 z3) (.slice x4 y4 z4) (.slice none 0 0) (.slice none 0 0) (w.alloc o) (hr.2.1.below (below_al (o:=o) (Below.refl _ _))) (rd_zero m _ 0))
 show Calls _ _ #[.agg #[.int .i64 3,.string nm,.slice x1 nms.length z1,.slice x2 l.length z2,.int .i64 vh.kind,.bool vh.flag,.bool vh.neg,.string vh.dig,.int .i64 vh.exp,.int .u64 vh.bits,.string vh.text,.slice x3 y3 z3,.slice x4 y4 z4]] _ _
 clear hr
 by_cases h1:nm=⟨#[]⟩
 ·have E1:=hide h1
  rw [h1]
  clear h1
  go_enter Tryz.func37, Tryz.ntmps37
  go_wp2_with (go_at_call 82;refine (hE.out _).mono ?_;rintro e w1 ⟨b,rfl,hT,hb1⟩)
  go_ret
  exact ⟨b,rfl,(show Hid _ from ⟨fun q=>⟨(by first|trivial|rfl|exact E1.out),hT.1 q⟩,fun q=>hT.2 q.2⟩),below_then (below_al (Below.refl _ _)) hb1⟩
 ·have b1:¬ nm.toList=[]:=tl0 h1
  have H1:=hide h1
  clear h1
  go_enter Tryz.func37, Tryz.ntmps37
  go_wp2_with fail
  go_ret
  exact TB.no (fun q=>H1.out q.1) (below_al (Below.refl _ _))
set_option maxHeartbeats 2000000 in
set_option maxRecDepth 100000 in
theorem bare_6 (n m:Nat) (nm:ByteArray) (nms:List ByteArray) (vh:Hd) (vl:List (VT m)) (l:List (ET n)) (q:Sl) (w:World) (hr:RE (n + 1) w (⟨6,nm,nms,m + 1,(vh,vl)⟩,l) q) :
  Calls Tryz.prog 37 #[.agg (ecl ⟨6,nm,nms,m + 1,(vh,vl)⟩ q)] w fun e w'=>TB (nm=⟨#[]⟩∧VZ (m + 1) (vh,vl)) w e w':=by
 obtain ⟨al,cl,hle,hc1,hc2⟩:=hr.tl.len
 obtain ⟨an,cn,hne,hd1,hd2⟩:=hr.1.len
 obtain ⟨x1,y1,z1,x2,y2,z2,x3,y3,z3,x4,y4,z4,hqs⟩:=hr.shape
 subst hqs
 obtain ⟨rfl,rfl,rfl⟩:=Value.slice.inj hle
 obtain ⟨rfl,rfl,rfl⟩:=Value.slice.inj hne
 clear hle hne hc1 hc2 hd1 hd2
 have hE:=hide (fun o=>equal_any (m + 1) (vh,vl) (zr 0,[]) (.slice x3 y3 z3) (.slice x4 y4 z4) (.slice none 0 0) (.slice none 0 0) (w.alloc o) (hr.2.1.below (below_al (o:=o) (Below.refl _ _))) (rd_zero m _ 0))
 show Calls _ _ #[.agg #[.int .i64 6,.string nm,.slice x1 nms.length z1,.slice x2 l.length z2,.int .i64 vh.kind,.bool vh.flag,.bool vh.neg,.string vh.dig,.int .i64 vh.exp,.int .u64 vh.bits,.string vh.text,.slice x3 y3 z3,.slice x4 y4 z4]] _ _
 clear hr
 by_cases h1:nm=⟨#[]⟩
 ·have E1:=hide h1
  rw [h1]
  clear h1
  go_enter Tryz.func37, Tryz.ntmps37
  go_wp2_with (go_at_call 82;refine (hE.out _).mono ?_;rintro e w1 ⟨b,rfl,hT,hb1⟩)
  go_ret
  exact ⟨b,rfl,(show Hid _ from ⟨fun q=>⟨(by first|trivial|rfl|exact E1.out),hT.1 q⟩,fun q=>hT.2 q.2⟩),below_then (below_al (Below.refl _ _)) hb1⟩
 ·have b1:¬ nm.toList=[]:=tl0 h1
  have H1:=hide h1
  clear h1
  go_enter Tryz.func37, Tryz.ntmps37
  go_wp2_with fail
  go_ret
  exact TB.no (fun q=>H1.out q.1) (below_al (Below.refl _ _))
set_option maxHeartbeats 2000000 in
set_option maxRecDepth 100000 in
theorem bare_4 (n m:Nat) (nm:ByteArray) (nms:List ByteArray) (vh:Hd) (vl:List (VT m)) (l:List (ET n)) (q:Sl) (w:World) (hr:RE (n + 1) w (⟨4,nm,nms,m + 1,(vh,vl)⟩,l) q) :
  Calls Tryz.prog 37 #[.agg (ecl ⟨4,nm,nms,m + 1,(vh,vl)⟩ q)] w fun e w'=>TB (nm=⟨#[]⟩∧nms=[]∧VZ (m + 1) (vh,vl)) w e w':=by
 obtain ⟨al,cl,hle,hc1,hc2⟩:=hr.tl.len
 obtain ⟨an,cn,hne,hd1,hd2⟩:=hr.1.len
 obtain ⟨x1,y1,z1,x2,y2,z2,x3,y3,z3,x4,y4,z4,hqs⟩:=hr.shape
 subst hqs
 obtain ⟨rfl,rfl,rfl⟩:=Value.slice.inj hle
 obtain ⟨rfl,rfl,rfl⟩:=Value.slice.inj hne
 clear hle hne hc1 hc2 hd1 hd2
 have hE:=hide (fun o=>equal_any (m + 1) (vh,vl) (zr 0,[]) (.slice x3 y3 z3) (.slice x4 y4 z4) (.slice none 0 0) (.slice none 0 0) (w.alloc o) (hr.2.1.below (below_al (o:=o) (Below.refl _ _))) (rd_zero m _ 0))
 show Calls _ _ #[.agg #[.int .i64 4,.string nm,.slice x1 nms.length z1,.slice x2 l.length z2,.int .i64 vh.kind,.bool vh.flag,.bool vh.neg,.string vh.dig,.int .i64 vh.exp,.int .u64 vh.bits,.string vh.text,.slice x3 y3 z3,.slice x4 y4 z4]] _ _
 clear hr
 by_cases h1:nm=⟨#[]⟩
 ·have E1:=hide h1
  rw [h1]
  clear h1
  by_cases h2:nms=[]
  ·have E2:=hide h2
   have zE2:nms.length=0:=by rw [h2];rfl
   rw [zE2]
   clear zE2 h2
   go_enter Tryz.func37, Tryz.ntmps37
   go_wp2_with (go_at_call 82;refine (hE.out _).mono ?_;rintro e w1 ⟨b,rfl,hT,hb1⟩)
   go_ret
   exact ⟨b,rfl,(show Hid _ from ⟨fun q=>⟨(by first|trivial|rfl|exact E1.out),E2.out,hT.1 q⟩,fun q=>hT.2 q.2.2⟩),below_then (below_al (Below.refl _ _)) hb1⟩
  ·have HE2:=hide h2
   go_enter Tryz.func37, Tryz.ntmps37
   go_wp2_with fail
   go_ret
   exact TB.no (fun q=>HE2.out q.2.1) (below_al (Below.refl _ _))
 ·have b1:¬ nm.toList=[]:=tl0 h1
  have H1:=hide h1
  clear h1
  go_enter Tryz.func37, Tryz.ntmps37
  go_wp2_with fail
  go_ret
  exact TB.no (fun q=>H1.out q.1) (below_al (Below.refl _ _))
set_option maxHeartbeats 2000000 in
set_option maxRecDepth 100000 in
theorem bare_12 (n m:Nat) (nm:ByteArray) (nms:List ByteArray) (vh:Hd) (vl:List (VT m)) (l:List (ET n)) (q:Sl) (w:World) (hr:RE (n + 1) w (⟨12,nm,nms,m + 1,(vh,vl)⟩,l) q) :
  Calls Tryz.prog 37 #[.agg (ecl ⟨12,nm,nms,m + 1,(vh,vl)⟩ q)] w fun e w'=>TB (nm=⟨#[]⟩∧nms=[]∧VZ (m + 1) (vh,vl)) w e w':=by
 obtain ⟨al,cl,hle,hc1,hc2⟩:=hr.tl.len
 obtain ⟨an,cn,hne,hd1,hd2⟩:=hr.1.len
 obtain ⟨x1,y1,z1,x2,y2,z2,x3,y3,z3,x4,y4,z4,hqs⟩:=hr.shape
 subst hqs
 obtain ⟨rfl,rfl,rfl⟩:=Value.slice.inj hle
 obtain ⟨rfl,rfl,rfl⟩:=Value.slice.inj hne
 clear hle hne hc1 hc2 hd1 hd2
 have hE:=hide (fun o=>equal_any (m + 1) (vh,vl) (zr 0,[]) (.slice x3 y3 z3) (.slice x4 y4 z4) (.slice none 0 0) (.slice none 0 0) (w.alloc o) (hr.2.1.below (below_al (o:=o) (Below.refl _ _))) (rd_zero m _ 0))
 show Calls _ _ #[.agg #[.int .i64 12,.string nm,.slice x1 nms.length z1,.slice x2 l.length z2,.int .i64 vh.kind,.bool vh.flag,.bool vh.neg,.string vh.dig,.int .i64 vh.exp,.int .u64 vh.bits,.string vh.text,.slice x3 y3 z3,.slice x4 y4 z4]] _ _
 clear hr
 by_cases h1:nm=⟨#[]⟩
 ·have E1:=hide h1
  rw [h1]
  clear h1
  by_cases h2:nms=[]
  ·have E2:=hide h2
   have zE2:nms.length=0:=by rw [h2];rfl
   rw [zE2]
   clear zE2 h2
   go_enter Tryz.func37, Tryz.ntmps37
   go_wp2_with (go_at_call 82;refine (hE.out _).mono ?_;rintro e w1 ⟨b,rfl,hT,hb1⟩)
   go_ret
   exact ⟨b,rfl,(show Hid _ from ⟨fun q=>⟨(by first|trivial|rfl|exact E1.out),E2.out,hT.1 q⟩,fun q=>hT.2 q.2.2⟩),below_then (below_al (Below.refl _ _)) hb1⟩
  ·have HE2:=hide h2
   go_enter Tryz.func37, Tryz.ntmps37
   go_wp2_with fail
   go_ret
   exact TB.no (fun q=>HE2.out q.2.1) (below_al (Below.refl _ _))
 ·have b1:¬ nm.toList=[]:=tl0 h1
  have H1:=hide h1
  clear h1
  go_enter Tryz.func37, Tryz.ntmps37
  go_wp2_with fail
  go_ret
  exact TB.no (fun q=>H1.out q.1) (below_al (Below.refl _ _))
set_option maxHeartbeats 2000000 in
set_option maxRecDepth 100000 in
theorem bare_7 (n m:Nat) (nm:ByteArray) (nms:List ByteArray) (vh:Hd) (vl:List (VT m)) (l:List (ET n)) (q:Sl) (w:World) (hr:RE (n + 1) w (⟨7,nm,nms,m + 1,(vh,vl)⟩,l) q) :
  Calls Tryz.prog 37 #[.agg (ecl ⟨7,nm,nms,m + 1,(vh,vl)⟩ q)] w fun e w'=>TB (nm=⟨#[]⟩∧nms=[]∧l=[]) w e w':=by
 obtain ⟨al,cl,hle,hc1,hc2⟩:=hr.tl.len
 obtain ⟨an,cn,hne,hd1,hd2⟩:=hr.1.len
 obtain ⟨x1,y1,z1,x2,y2,z2,x3,y3,z3,x4,y4,z4,hqs⟩:=hr.shape
 subst hqs
 obtain ⟨rfl,rfl,rfl⟩:=Value.slice.inj hle
 obtain ⟨rfl,rfl,rfl⟩:=Value.slice.inj hne
 clear hle hne hc1 hc2 hd1 hd2
 have hE:=hide (fun o=>equal_any (m + 1) (zr 0,[]) (zr 0,[]) (.slice none 0 0) (.slice none 0 0) (.slice none 0 0) (.slice none 0 0) (w.alloc o) (rd_zero m _ 0) (rd_zero m _ 0))
 show Calls _ _ #[.agg #[.int .i64 7,.string nm,.slice x1 nms.length z1,.slice x2 l.length z2,.int .i64 vh.kind,.bool vh.flag,.bool vh.neg,.string vh.dig,.int .i64 vh.exp,.int .u64 vh.bits,.string vh.text,.slice x3 y3 z3,.slice x4 y4 z4]] _ _
 clear hr
 by_cases h1:nm=⟨#[]⟩
 ·have E1:=hide h1
  rw [h1]
  clear h1
  by_cases h2:nms=[]
  ·have E2:=hide h2
   have zE2:nms.length=0:=by rw [h2];rfl
   rw [zE2]
   clear zE2 h2
   by_cases h3:l=[]
   ·have E3:=hide h3
    have zE3:l.length=0:=by rw [h3];rfl
    rw [zE3]
    clear zE3 h3
    go_enter Tryz.func37, Tryz.ntmps37
    go_wp2_with (go_at_call 82;refine (hE.out _).mono ?_;rintro e w1 ⟨b,rfl,hT,hb1⟩)
    go_ret
    exact ⟨b,rfl,(show Hid _ from ⟨fun q=>⟨(by first|trivial|rfl|exact E1.out),E2.out,E3.out⟩,fun q=>hT.2 rfl⟩),below_then (below_al (Below.refl _ _)) hb1⟩
   ·have HE3:=hide h3
    go_enter Tryz.func37, Tryz.ntmps37
    go_wp2_with fail
    go_ret
    exact TB.no (fun q=>HE3.out q.2.2) (below_al (Below.refl _ _))
  ·have HE2:=hide h2
   go_enter Tryz.func37, Tryz.ntmps37
   go_wp2_with fail
   go_ret
   exact TB.no (fun q=>HE2.out q.2.1) (below_al (Below.refl _ _))
 ·have b1:¬ nm.toList=[]:=tl0 h1
  have H1:=hide h1
  clear h1
  go_enter Tryz.func37, Tryz.ntmps37
  go_wp2_with fail
  go_ret
  exact TB.no (fun q=>H1.out q.1) (below_al (Below.refl _ _))
end Lx
end Go.Proofs.YtcnfchblfcfimaaGreatDoor
namespace Go.Proofs.YtcnfchblfcfimaaGreatDoor
namespace Lx
open Go.RowKit
theorem TB.iff {p p':Prop} {w w':World} {e:Ending} (h:TB p w e w') (k:p↔p'):TB p' w e w':=by
 obtain ⟨b,e1,t,hb⟩:=h
 exact ⟨b,e1,(show Hid _ from ⟨fun q=>k.1 (t.1 q),fun q=>t.2 (k.2 q)⟩),hb⟩
def EBare {α:Type} (h:Eh) (l:List α):Prop:=(1≤h.op∧h.op≤12)∧(h.op=2∨h.op=5∨h.name=⟨#[]⟩)∧(h.op=3∨h.op=6∨h.names=[])∧(h.op=3∨h.op=4∨h.op=6∨h.op=12∨l=[])∧(h.op=7∨VZ h.vn h.val)
set_option maxHeartbeats 2000000 in
set_option maxRecDepth 100000 in
theorem ebare_any (n:Nat) (h:Eh) (l:List (ET n)) (q:Sl) (w:World) (hr:RE (n + 1) w (h,l) q) :
  Calls Tryz.prog 37 #[.agg (ecl h q)] w fun e w'=>TB (EBare h l) w e w':=by
 obtain ⟨op,nm,nms,vn,val⟩:=h
 cases vn with
 | zero=>exact Empty.elim val
 | succ m =>
  obtain ⟨vh,vl⟩:=val
  have key:∀ (k:Int) (p:Prop),(Calls Tryz.prog 37 #[.agg (ecl ⟨k,nm,nms,m + 1,(vh,vl)⟩ q)] w fun e w'=>TB p w e w')→(p↔EBare ⟨k,nm,nms,m + 1,(vh,vl)⟩ l)→Calls Tryz.prog 37 #[.agg (ecl ⟨k,nm,nms,m + 1,(vh,vl)⟩ q)] w fun e w'=>TB (EBare ⟨k,nm,nms,m + 1,(vh,vl)⟩ l) w e w':=fun k p h1 h2=>h1.mono fun e w' h3=>TB.iff h3 h2
  by_cases k1:op=1
  ·subst k1;exact key 1 _ (bare_1 n m nm nms vh vl l q w hr) (by simp [EBare])
  by_cases k2:op=2
  ·subst k2;exact key 2 _ (bare_2 n m nm nms vh vl l q w hr) (by simp [EBare])
  by_cases k3:op=3
  ·subst k3;exact key 3 _ (bare_3 n m nm nms vh vl l q w hr) (by simp [EBare])
  by_cases k4:op=4
  ·subst k4;exact key 4 _ (bare_4 n m nm nms vh vl l q w hr) (by simp [EBare])
  by_cases k5:op=5
  ·subst k5;exact key 5 _ (bare_5 n m nm nms vh vl l q w hr) (by simp [EBare])
  by_cases k6:op=6
  ·subst k6;exact key 6 _ (bare_6 n m nm nms vh vl l q w hr) (by simp [EBare])
  by_cases k7:op=7
  ·subst k7;exact key 7 _ (bare_7 n m nm nms vh vl l q w hr) (by simp [EBare])
  by_cases k8:op=8
  ·subst k8;exact key 8 _ (bare_8 n m nm nms vh vl l q w hr) (by simp [EBare])
  by_cases k9:op=9
  ·subst k9;exact key 9 _ (bare_9 n m nm nms vh vl l q w hr) (by simp [EBare])
  by_cases k10:op=10
  ·subst k10;exact key 10 _ (bare_10 n m nm nms vh vl l q w hr) (by simp [EBare])
  by_cases k11:op=11
  ·subst k11;exact key 11 _ (bare_11 n m nm nms vh vl l q w hr) (by simp [EBare])
  by_cases k12:op=12
  ·subst k12;exact key 12 _ (bare_12 n m nm nms vh vl l q w hr) (by simp [EBare])
  have hx:¬ EBare ⟨op,nm,nms,m + 1,(vh,vl)⟩ l:=by
   rintro ⟨⟨q1,q2⟩,_⟩
   simp only at q1 q2
   omega
  have hx':=hide hx
  obtain ⟨x1,y1,z1,x2,y2,z2,x3,y3,z3,x4,y4,z4,hqs⟩:=hr.shape
  subst hqs
  clear hx hr key
  show Calls _ _ #[.agg #[.int .i64 op,.string nm,.slice x1 y1 z1,.slice x2 y2 z2,.int .i64 vh.kind,.bool vh.flag,.bool vh.neg,.string vh.dig,.int .i64 vh.exp,.int .u64 vh.bits,.string vh.text,.slice x3 y3 z3,.slice x4 y4 z4]] _ _
  go_enter Tryz.func37, Tryz.ntmps37
  go_wp2_with fail
  go_ret
  exact TB.no hx'.out (below_al (Below.refl _ _))
set_option maxHeartbeats 2000000 in
theorem isConst_any (k:Int) (w:World):Calls Tryz.prog 83 #[.int .i64 k] w fun e w'=>TB (k=1∨k=2∨k=3∨k=5) w e w':=by
 by_cases k1:k=1
 ·subst k1
  go_enter Tryz.func83, Tryz.ntmps83
  go_wp2_with fail
  go_ret
  exact TB.yes (by simp) (Below.refl _ _)
 by_cases k2:k=2
 ·subst k2
  go_enter Tryz.func83, Tryz.ntmps83
  go_wp2_with fail
  go_ret
  exact TB.yes (by simp) (Below.refl _ _)
 by_cases k3:k=3
 ·subst k3
  go_enter Tryz.func83, Tryz.ntmps83
  go_wp2_with fail
  go_ret
  exact TB.yes (by simp) (Below.refl _ _)
 by_cases k5:k=5
 ·subst k5
  go_enter Tryz.func83, Tryz.ntmps83
  go_wp2_with fail
  go_ret
  exact TB.yes (by simp) (Below.refl _ _)
 have hx:=hide (show ¬ (k=1∨k=2∨k=3∨k=5) by omega)
 go_enter Tryz.func83, Tryz.ntmps83
 go_wp2_with fail
 go_ret
 exact TB.no hx.out (Below.refl _ _)
end Lx
end Go.Proofs.YtcnfchblfcfimaaGreatDoor
namespace Go.Proofs.YtcnfchblfcfimaaGreatDoor
namespace Lx
open Go.RowKit
structure Ask (F:FuncId) (P:(n:Nat)→ET n→Prop) (S:(n:Nat)→ET n→World→Prop):Prop where
 call:∀ (n:Nat) (x:ET n) (q:Sl) (w:World),RE n w x q→S n x w→Calls Tryz.prog F #[.agg (ecl (ehd n x) q)] w fun e w'=>TB (P n x) w e w'
 low:∀ (n:Nat) (x:ET n) (w W:World),S n x w→Below w.heap.size w W→S n x W
 kid:∀ (n:Nat) (h:Eh) (l:List (ET n)) (w:World),S (n + 1) (h,l) w→∀ i (hi:i<l.length),S n l[i] w
def evA (P:(n:Nat)→ET n→Prop):(n:Nat)→ET n→Prop
 | 0,_=>False
 | n + 1,x=>P (n + 1) x∧∀ i (h:i<x.2.length),evA P n x.2[i]
def such (F:FuncId):Value:=.func (.func F) #[] #[]
def EvOk (F:FuncId) (P:(n:Nat)→ET n→Prop) (S:(n:Nat)→ET n→World→Prop) (n:Nat):Prop:=∀ (x:ET n) (q:Sl) (w:World),RE n w x q→S n x w→Calls Tryz.prog 36 #[.agg (ecl (ehd n x) q),such F] w fun e w'=>TB (evA P n x) w e w'
def Sb (W:World) (i:Nat) (F:FuncId):Prop:=W.heap[i]?=some (.cells #[such F] 40 (0,0))
section
variable {F : FuncId} {P : (n : Nat) → ET n → Prop} {S : (n : Nat) → ET n → World → Prop}
set_option maxHeartbeats 2000000 in
set_option maxRecDepth 100000 in
theorem every1_any (n:Nat) (ih:EvOk F P S n) (x:ET n) (q:Sl) (w:World) (i:Nat) (hr:RE n w x q) (hs:S n x w) (hb:Sb w i F) (A:Ask F P S):Calls Tryz.prog 81 #[.agg (ecl (ehd n x) q),.pointer (some ⟨i,0,none⟩)] w fun e w'=>TB (¬ evA P n x) w e w':=by
 obtain ⟨x1,y1,z1,x2,y2,z2,x3,y3,z3,x4,y4,z4,hqs⟩:=hr.shape
 subst hqs
 have hlt:i<w.heap.size:=(Array.getElem?_eq_some_iff.1 hb).1
 have cs:w.cell? ⟨i,0,none⟩=some (such F):=by unfold World.cell?;rw [hb];rfl
 have hc:=hide (fun o=>ih x ⟨.slice x1 y1 z1,.slice x2 y2 z2,.slice x3 y3 z3,.slice x4 y4 z4⟩ (w.alloc o) (hr.below (below_al (Below.refl _ _))) (A.low _ _ _ _ hs (below_al (Below.refl _ _))))
 clear hr hs hb ih A
 unfold such at cs hc
 unfold ecl
 go_enter Tryz.func81, Tryz.ntmps81
 go_wp2_with (go_at_call 36;refine (hc.out _).mono ?_;rintro e w1 ⟨b,rfl,hT,hb1⟩)
 go_ret
 refine ⟨!b,rfl,(show Hid _ from ⟨fun k he=>?_,fun hne=>?_⟩),below_then (below_al (Below.refl _ _)) hb1⟩
 ·have:=hT.2 he
  rw [this] at k
  cases k
 ·cases b
  ·rfl
  ·exact absurd (hT.1 rfl) hne
theorem Sb.below {W W1:World} {i:Nat} (h:Sb W i F) (hb:Below W.heap.size W W1):Sb W1 i F:=(hb.block _ (Array.getElem?_eq_some_iff.1 h).1).trans h
set_option maxHeartbeats 2000000 in
set_option maxRecDepth 100000 in
theorem eindex_any (n:Nat) (ih:EvOk F P S n) (v:Value) (l:List (ET n)) (w:World) (j:Nat) (hl:EL n w v l) (hs:∀ i (hi:i<l.length),S n l[i] w) (hb:Sb w j F) (A:Ask F P S) :
  Calls Tryz.prog 132 #[v,.func (.func 81) #[] #[.pointer (some ⟨j,0,none⟩)]] w fun e w'=>∃ k:Int,e=.returned (.int .i64 k)∧Hid (0≤k↔∃ i,∃ h:i<l.length,¬ evA P n l[i])∧Below w.heap.size w w':=by
 obtain ⟨al,cl,rfl,hl1,hl2⟩:=hl.len
 have ml:maxLen=9223372036854775807:=rfl
 have HL:=hide hl
 have HS:=hide hs
 have HB:=hide hb
 have HA:=hide A
 have IH:=hide ih
 clear hl hs hb A ih
 go_enter Tryz.func132, Tryz.ntmps132
 go_wp2_with fail
 go_loopw [8] (fun i w'=>∃ k:Nat,i=.int .i64 k∧k≤l.length∧Hid ((∀ i (h1:i<l.length),i<k→evA P n l[i])∧Below w.heap.size w w')) (fun i _=>l.length - (intOf i).toNat)
 case atStart=>exact ⟨0,rfl,Nat.zero_le _,(fun i _ h=>by omega),Below.refl _ _⟩
 case round =>
  obtain ⟨k,rfl,hk,H⟩:=hrel
  by_cases hkl:k<l.length
  ·have hki:(k:Int)<(l.length:Int):=by omega
   have hk63:(k:Int)<9223372036854775807:=by omega
   obtain ⟨b,o,c,he,hbl,hlc,hcm,q,hrg,hrd⟩:=HL.out.at k hkl
   have he':=Value.slice.inj he
   obtain ⟨rfl,_,rfl⟩:=he'
   clear he
   have hrg2:=rangeAt_below hrg H.out.2 hbl
   obtain ⟨x1,y1,z1,x2,y2,z2,x3,y3,z3,x4,y4,z4,hqs⟩:=hrd.shape
   subst hqs
   have q0:=range13 hrg2
   have hc:=hide (fun W (hb:Below w.heap.size w W)=>every1_any n IH.out l[k] ⟨.slice x1 y1 z1,.slice x2 y2 z2,.slice x3 y3 z3,.slice x4 y4 z4⟩ W j (hrd.below hb) (HA.out.low _ _ _ _ (HS.out k hkl) hb) (HB.out.below hb) HA.out)
   clear hrg hrg2 hrd
   unfold ecl at hc
   go_wp2_with (go_at_call 81;refine Sto.out ?_)
   refine Sto.mk ?_
   refine (hc.out _ H.out.2).mono ?_
   rintro e w2 ⟨b2,rfl,hT,hb1⟩
   have hb2:=hide (below_then H.out.2 hb1)
   cases b2
   ·have hEq:Hid (evA P n l[k]):=hide (Classical.byContradiction fun q=>by have:=hT.2 q;cases this)
    go_wp2_with fail
    refine ⟨⟨k + 1,by go_num,by omega,(fun i h1 h3=>?_),hb2.out⟩,by simp [intOf];omega⟩
    by_cases e:i=k
    ·subst e;exact hEq.out
    ·exact H.out.1 i h1 (by omega)
   ·have hne:=hide (hT.1 rfl)
    go_wp2_with fail
    go_ret
    exact ⟨k,rfl,(show Hid _ from ⟨fun _=>⟨k,hkl,hne.out⟩,fun _=>by omega⟩),hb2.out⟩
  ·have hki:¬ ((k:Int)<(l.length:Int)):=by omega
   have hE':=hide (show ∀ i (h1:i<l.length),evA P n l[i] from fun i h1=>H.out.1 i h1 (by omega))
   go_wp2_with fail
   go_ret
   exact ⟨-1,rfl,(show Hid _ from ⟨fun h=>by omega,fun ⟨i,h,q⟩=>absurd (hE'.out i h) q⟩),H.out.2⟩
set_option maxHeartbeats 2000000 in
set_option maxRecDepth 100000 in
theorem econtains_any (n:Nat) (ih:EvOk F P S n) (v:Value) (l:List (ET n)) (w:World) (j:Nat) (hl:EL n w v l) (hs:∀ i (hi:i<l.length),S n l[i] w) (hb:Sb w j F) (A:Ask F P S) :
  Calls Tryz.prog 80 #[v,.func (.func 81) #[] #[.pointer (some ⟨j,0,none⟩)]] w fun e w'=>TB (∃ i,∃ h:i<l.length,¬ evA P n l[i]) w e w':=by
 have hc:=hide (eindex_any n ih v l w j hl hs hb A)
 obtain ⟨al,cl,rfl,hl1,hl2⟩:=hl.len
 obtain ⟨p,hp⟩:∃ p,(∃ i,∃ h:i<l.length,¬ evA P n l[i])=p:=⟨_,rfl⟩
 rw [hp] at hc ⊢
 clear hl hs hb A ih hp
 go_enter Tryz.func80, Tryz.ntmps80
 go_wp2_with (go_at_call 132;refine hc.out.mono ?_;rintro e w1 ⟨k,rfl,hT,hb1⟩)
 go_ret
 exact ⟨_,rfl,(show Hid _ from ⟨fun q=>hT.out.1 (by simpa using q),fun q=>by simpa using hT.out.2 q⟩),hb1⟩
set_option maxHeartbeats 4000000 in
set_option maxRecDepth 100000 in
theorem every_step (hF:F=37∨F=38∨F=39) (n:Nat) (ih:EvOk F P S n) (A:Ask F P S):EvOk F P S (n + 1):=by
 intro x q w hr hs
 obtain ⟨h,l⟩:=x
 obtain ⟨al,cl,hle,hc1,hc2⟩:=hr.tl.len
 obtain ⟨x1,y1,z1,x2,y2,z2,x3,y3,z3,x4,y4,z4,hqs⟩:=hr.shape
 subst hqs
 obtain ⟨rfl,rfl,rfl⟩:=Value.slice.inj hle
 clear hle
 have HR:=hide hr
 have HS:=hide hs
 have HA:=hide A
 have IH:=hide ih
 have hc:=hide (fun W (hb:Below w.heap.size w W)=>A.call (n + 1) (h,l) ⟨.slice x1 y1 z1,.slice x2 l.length z2,.slice x3 y3 z3,.slice x4 y4 z4⟩ W (hr.below hb) (A.low _ _ _ _ hs hb))
 clear hr hs A ih
 have hmf:∀ (fn:Fn) (first cap:Array Value) (w:World),(Instr.makeFunc fn first cap).run Tryz.prog w=.ok (.func fn first cap) w:=fun _ _ _ _=>rfl
 show Calls _ _ #[.agg #[.int .i64 h.op,.string h.name,.slice x1 y1 z1,.slice x2 l.length z2,.int .i64 (vhd h.vn h.val).kind,.bool (vhd h.vn h.val).flag,.bool (vhd h.vn h.val).neg,.string (vhd h.vn h.val).dig,.int .i64 (vhd h.vn h.val).exp,.int .u64 (vhd h.vn h.val).bits,.string (vhd h.vn h.val).text,.slice x3 y3 z3,.slice x4 y4 z4],_] _ _
 unfold such
 simp only [ehd,ecl] at hc
 obtain ⟨B,hB⟩:∃ B,w.alloc (.cells #[.int .i64 h.op,.string h.name,.slice x1 y1 z1,.slice x2 l.length z2,.int .i64 (vhd h.vn h.val).kind,.bool (vhd h.vn h.val).flag,.bool (vhd h.vn h.val).neg,.string (vhd h.vn h.val).dig,.int .i64 (vhd h.vn h.val).exp,.int .u64 (vhd h.vn h.val).bits,.string (vhd h.vn h.val).text,.slice x3 y3 z3,.slice x4 y4 z4] 33)=B:=⟨_,rfl⟩
 have S0:Hid (Sb (B.alloc (.cells #[such F] 40)) (w.heap.size + 1) F):=by
  have:=heap_alloc_last B (.cells #[such F] 40)
  rw [←hB,World.size_alloc] at this
  rw [←hB]
  exact this
 have X0:Hid (Ex (B.alloc (.cells #[such F] 40)) w.heap.size h ⟨.slice x1 y1 z1,.slice x2 l.length z2,.slice x3 y3 z3,.slice x4 y4 z4⟩):=by
  rw [←hB]
  exact (ex_new w h _).below (below_al (Below.refl _ _))
 rw [←hB] at S0 X0
 clear hB B
 unfold such at S0
 rcases hF with rfl|rfl|rfl
 ·go_enter Tryz.func36, Tryz.ntmps36
  go_wp2_with (go_at_call 37;refine Sto.out ?_)
  refine Sto.mk ?_
  refine (hc.out _ (below_al (below_al (Below.refl _ _)))).mono ?_
  rintro e w1 ⟨b,rfl,hT,hb1⟩
  have hT1:=hide hT
  have S1:=hide (S0.out.below hb1)
  have X1:=hide (X0.out.below hb1)
  have B1:=hide (below_then (below_al (below_al (Below.refl _ _))) hb1)
  have x0:=X1.out.cells
  have hc2:=hide (econtains_any n IH.out (.slice x2 l.length z2) l w1 (w.heap.size + 1) (HR.out.tl.below B1.out) (fun i hi=>HA.out.low _ _ _ _ (HA.out.kid n h l w HS.out i hi) B1.out) S1.out HA.out)
  clear hT hb1 S0 X0
  cases b
  ·have hn:=hide (show ¬ P (n + 1) (h,l) from fun q=>by have:=hT1.out.2 q;cases this)
   go_wp2_with fail
   go_ret
   exact TB.no (fun q=>hn.out q.1) B1.out
  ·have hy:=hide (hT1.out.1 rfl)
   go_wp2_with (go_at_call 80;refine Sto.out ?_)
   refine Sto.mk ?_
   refine hc2.out.mono ?_
   rintro e w2 ⟨b2,rfl,hT2,hb2⟩
   have H2:=hide hT2
   have B2:=hide (below_then B1.out hb2)
   clear hT2 hb2
   go_wp2_with fail
   go_ret
   refine ⟨!b2,rfl,(show Hid _ from ⟨fun k=>⟨hy.out,fun i hi=>Classical.byContradiction fun q=>?_⟩,fun hq=>?_⟩),B2.out⟩
   ·have:=H2.out.2 ⟨i,hi,q⟩
    rw [this] at k
    cases k
   ·cases b2
    ·rfl
    ·obtain ⟨i,hi,q⟩:=H2.out.1 rfl
     exact absurd (hq.2 i hi) q
 ·go_enter Tryz.func36, Tryz.ntmps36
  go_wp2_with (go_at_call 38;refine Sto.out ?_)
  refine Sto.mk ?_
  refine (hc.out _ (below_al (below_al (Below.refl _ _)))).mono ?_
  rintro e w1 ⟨b,rfl,hT,hb1⟩
  have hT1:=hide hT
  have S1:=hide (S0.out.below hb1)
  have X1:=hide (X0.out.below hb1)
  have B1:=hide (below_then (below_al (below_al (Below.refl _ _))) hb1)
  have x0:=X1.out.cells
  have hc2:=hide (econtains_any n IH.out (.slice x2 l.length z2) l w1 (w.heap.size + 1) (HR.out.tl.below B1.out) (fun i hi=>HA.out.low _ _ _ _ (HA.out.kid n h l w HS.out i hi) B1.out) S1.out HA.out)
  clear hT hb1 S0 X0
  cases b
  ·have hn:=hide (show ¬ P (n + 1) (h,l) from fun q=>by have:=hT1.out.2 q;cases this)
   go_wp2_with fail
   go_ret
   exact TB.no (fun q=>hn.out q.1) B1.out
  ·have hy:=hide (hT1.out.1 rfl)
   go_wp2_with (go_at_call 80;refine Sto.out ?_)
   refine Sto.mk ?_
   refine hc2.out.mono ?_
   rintro e w2 ⟨b2,rfl,hT2,hb2⟩
   have H2:=hide hT2
   have B2:=hide (below_then B1.out hb2)
   clear hT2 hb2
   go_wp2_with fail
   go_ret
   refine ⟨!b2,rfl,(show Hid _ from ⟨fun k=>⟨hy.out,fun i hi=>Classical.byContradiction fun q=>?_⟩,fun hq=>?_⟩),B2.out⟩
   ·have:=H2.out.2 ⟨i,hi,q⟩
    rw [this] at k
    cases k
   ·cases b2
    ·rfl
    ·obtain ⟨i,hi,q⟩:=H2.out.1 rfl
     exact absurd (hq.2 i hi) q
 ·go_enter Tryz.func36, Tryz.ntmps36
  go_wp2_with (go_at_call 39;refine Sto.out ?_)
  refine Sto.mk ?_
  refine (hc.out _ (below_al (below_al (Below.refl _ _)))).mono ?_
  rintro e w1 ⟨b,rfl,hT,hb1⟩
  have hT1:=hide hT
  have S1:=hide (S0.out.below hb1)
  have X1:=hide (X0.out.below hb1)
  have B1:=hide (below_then (below_al (below_al (Below.refl _ _))) hb1)
  have x0:=X1.out.cells
  have hc2:=hide (econtains_any n IH.out (.slice x2 l.length z2) l w1 (w.heap.size + 1) (HR.out.tl.below B1.out) (fun i hi=>HA.out.low _ _ _ _ (HA.out.kid n h l w HS.out i hi) B1.out) S1.out HA.out)
  clear hT hb1 S0 X0
  cases b
  ·have hn:=hide (show ¬ P (n + 1) (h,l) from fun q=>by have:=hT1.out.2 q;cases this)
   go_wp2_with fail
   go_ret
   exact TB.no (fun q=>hn.out q.1) B1.out
  ·have hy:=hide (hT1.out.1 rfl)
   go_wp2_with (go_at_call 80;refine Sto.out ?_)
   refine Sto.mk ?_
   refine hc2.out.mono ?_
   rintro e w2 ⟨b2,rfl,hT2,hb2⟩
   have H2:=hide hT2
   have B2:=hide (below_then B1.out hb2)
   clear hT2 hb2
   go_wp2_with fail
   go_ret
   refine ⟨!b2,rfl,(show Hid _ from ⟨fun k=>⟨hy.out,fun i hi=>Classical.byContradiction fun q=>?_⟩,fun hq=>?_⟩),B2.out⟩
   ·have:=H2.out.2 ⟨i,hi,q⟩
    rw [this] at k
    cases k
   ·cases b2
    ·rfl
    ·obtain ⟨i,hi,q⟩:=H2.out.1 rfl
     exact absurd (hq.2 i hi) q
theorem every_any (hF:F=37∨F=38∨F=39) (A:Ask F P S):∀ n,EvOk F P S n
 | 0=>fun x=>Empty.elim x
 | n + 1=>every_step hF n (every_any hF A n) A
def bareP:(n:Nat)→ET n→Prop
 | 0,_=>False
 | _ + 1,x=>EBare x.1 x.2
theorem askBare:Ask 37 bareP (fun _ _ _=>True):=⟨fun n x q w hr _=>by
 cases n with
 | zero=>exact Empty.elim x
 | succ n=>exact ebare_any n x.1 x.2 q w hr,fun _ _ _ _ _ _=>trivial,fun _ _ _ _ _ _ _=>trivial⟩
end
end Lx
end Go.Proofs.YtcnfchblfcfimaaGreatDoor
