/- Merged by program: SwNames, SuSame, SxNames. -/
import Derived.Test.YtcnfchblfcfimaaGreatDoorZn45
import Derived.Test.YtcnfchblfcfimaaGreatDoorZn14
import Derived.Deep.RegionLaw
import Derived.Test.YtcnfchblfcfimaaGreatDoorZn23
import Derived.Test.YtcnfchblfcfimaaGreatDoorZn31
set_option linter.unusedSimpArgs false
set_option linter.unusedVariables false
namespace Go.Proofs.YtcnfchblfcfimaaGreatDoor
namespace Lx
open Go.RowKit
variable {dq : {_f : (p : Prop) → Decidable p // True}}
set_option maxRecDepth 100000
theorem m_46 (S:List UInt8) (g:Nat) (p q e:Int):rdO (endR (mpgT (stp (g + 20)) [⟨4,[46],p⟩,⟨1,S,q⟩,⟨0,[],e⟩]))=.inr (leafE 2 (mkB S) (dp (g + 20))):=by kernel_rfl
theorem m_46b (S:List UInt8) (g:Nat) (p q e:Int):rdO (endR (mpgT (stp (g + 20)) [⟨4,[46],p⟩,⟨2,S,q⟩,⟨0,[],e⟩]))=.inr (leafE 2 (mkB S) (dp (g + 20))):=by kernel_rfl
theorem m_tag (S:List UInt8) (g:Nat) (p q e:Int):rdO (endR (mpgT (stp (g + 20)) [⟨1,[116,97,103],p⟩,⟨1,S,q⟩,⟨0,[],e⟩]))=.inr (leafE 5 (mkB S) (dp (g + 20))):=by kernel_rfl
theorem m_tagb (S:List UInt8) (g:Nat) (p q e:Int):rdO (endR (mpgT (stp (g + 20)) [⟨1,[116,97,103],p⟩,⟨2,S,q⟩,⟨0,[],e⟩]))=.inr (leafE 5 (mkB S) (dp (g + 20))):=by kernel_rfl
theorem rd_tok {f:Nat} {l:List UInt8} {a:Nat} {m:List Tk} (h:scR l=(0,a,m)):rdR f l=rdO (endR (mpgT (stp f) (m++[⟨0,[],l.length⟩]))):=by
 unfold rdR
 rw [h]
 rfl
theorem rdt_tok {f:Nat} {l:List UInt8} {a:Nat} {m:List Tk} (h:scR l=(0,a,m)):rdRt f l=rdOt (endRt (tyf f (m++[⟨0,[],l.length⟩]))):=by
 unfold rdRt
 rw [h]
 rfl
theorem get_pr (nm:ByteArray) (h1:Go.Proofs.YtcnfchblfcfimaaGreatDoor.okT nm=true) (h2:nm.size≤64):(prR [mk [46],ntk (bl nm)]).1=0:=by
 obtain ⟨k1,k2,k3,k4⟩:=ntk_ok nm h1 h2
 refine prR_ok (fun t ht=>?_) (by simp) (fun t ht=>?_) ?_
 ·simp only [List.mem_cons,List.not_mem_nil,or_false] at ht
  rcases ht with rfl|rfl
  ·kernel_rfl
  ·exact k1
 ·simp only [List.mem_cons,List.not_mem_nil,or_false] at ht
  rcases ht with rfl|rfl
  ·decide
  ·exact k2
 ·simp only [List.map_cons,List.map_nil,jn,List.length_append,List.length_cons]
  have:(splT (mk [46])).length=1:=rfl
  omega
theorem tag_pr (nm:ByteArray) (h1:Go.Proofs.YtcnfchblfcfimaaGreatDoor.okT nm=true) (h2:nm.size≤64):(prR [wd [116,97,103],ntk (bl nm)]).1=0:=by
 obtain ⟨k1,k2,k3,k4⟩:=ntk_ok nm h1 h2
 refine prR_ok (fun t ht=>?_) (by simp) (fun t ht=>?_) ?_
 ·simp only [List.mem_cons,List.not_mem_nil,or_false] at ht
  rcases ht with rfl|rfl
  ·kernel_rfl
  ·exact k1
 ·simp only [List.mem_cons,List.not_mem_nil,or_false] at ht
  rcases ht with rfl|rfl
  ·decide
  ·exact k2
 ·simp only [List.map_cons,List.map_nil,jn,List.length_append,List.length_cons]
  have:(splT (wd [116,97,103])).length=3:=rfl
  omega
def rtk (N:Tk):List Tk:=[wd [114,101,99,111,114,100],mk [123],N,mk [58],wd [105,110,116],mk [125]]
theorem rec_pr (nm:ByteArray) (h1:Go.Proofs.YtcnfchblfcfimaaGreatDoor.okT nm=true) (h2:nm.size≤64):(prR (rtk (ntk (bl nm)))).1=0:=by
 obtain ⟨k1,k2,k3,k4⟩:=ntk_ok nm h1 h2
 unfold rtk
 refine prR_ok (fun t ht=>?_) (by simp) (fun t ht=>?_) ?_
 ·simp only [List.mem_cons,List.not_mem_nil,or_false] at ht
  rcases ht with rfl|rfl|rfl|rfl|rfl|rfl
  ·kernel_rfl
  ·kernel_rfl
  ·exact k1
  ·kernel_rfl
  ·kernel_rfl
  ·kernel_rfl
 ·simp only [List.mem_cons,List.not_mem_nil,or_false] at ht
  rcases ht with rfl|rfl|rfl|rfl|rfl|rfl
  ·decide
  ·decide
  ·exact k2
  ·decide
  ·decide
  ·decide
 ·simp only [List.map_cons,List.map_nil,jn,List.length_append,List.length_cons]
  have e1:(splT (wd [114,101,99,111,114,100])).length=6:=rfl
  have e2:(splT (mk [123])).length=1:=rfl
  have e3:(splT (mk [58])).length=1:=rfl
  have e4:(splT (wd [105,110,116])).length=3:=rfl
  have e5:(splT (mk [125])).length=1:=rfl
  omega
theorem get_rd (g:Nat) (nm:ByteArray) (h1:Go.Proofs.YtcnfchblfcfimaaGreatDoor.okT nm=true) (h2:nm.size≤64):rdR (g + 20) (prR [mk [46],ntk (bl nm)]).2=.inr (leafE 2 nm _):=by
 obtain ⟨k1,k2,k3,k4⟩:=ntk_ok nm h1 h2
 obtain ⟨m,a,hs,hm⟩:=scR_of (get_pr nm h1 h2)
 obtain ⟨p,q,rfl⟩:=same2 hm
 rw [rd_tok hs,ntk_s]
 rcases k3 with k|k
 ·rw [k]
  exact (m_46 (bl nm) g p q _).trans (by rw [mkB_bl2])
 ·rw [k]
  exact (m_46b (bl nm) g p q _).trans (by rw [mkB_bl2])
theorem tag_rd (g:Nat) (nm:ByteArray) (h1:Go.Proofs.YtcnfchblfcfimaaGreatDoor.okT nm=true) (h2:nm.size≤64):rdR (g + 20) (prR [wd [116,97,103],ntk (bl nm)]).2=.inr (leafE 5 nm _):=by
 obtain ⟨k1,k2,k3,k4⟩:=ntk_ok nm h1 h2
 obtain ⟨m,a,hs,hm⟩:=scR_of (tag_pr nm h1 h2)
 obtain ⟨p,q,rfl⟩:=same2 hm
 rw [rd_tok hs,ntk_s]
 rcases k3 with k|k
 ·rw [k]
  exact (m_tag (bl nm) g p q _).trans (by rw [mkB_bl2])
 ·rw [k]
  exact (m_tagb (bl nm) g p q _).trans (by rw [mkB_bl2])
theorem same6 {N:Tk} {l:List Tk} (h:same l (rtk N)):∃ p0 p1 p2 p3 p4 p5,l=[⟨1,[114,101,99,111,114,100],p0⟩,⟨4,[123],p1⟩,⟨N.w,N.s,p2⟩,⟨4,[58],p3⟩,⟨1,[105,110,116],p4⟩,⟨4,[125],p5⟩]:=by
 unfold same rtk at h
 match l,h with
 | [⟨aw,as',ap⟩,⟨bw,bs',bp⟩,⟨cw,cs',cp⟩,⟨dw,ds',dp'⟩,⟨ew,es',ep⟩,⟨fw,fs',fp⟩],h =>
  simp only [List.map_cons,List.map_nil,List.cons.injEq,Prod.mk.injEq,and_true,mk,wd] at h
  obtain ⟨⟨a1,a2⟩,⟨b1,b2⟩,⟨c1,c2⟩,⟨d1,d2⟩,⟨e1,e2⟩,f1,f2⟩:=h
  subst a1 a2 b1 b2 c1 c2 d1 d2 e1 e2 f1 f2
  exact ⟨ap,bp,cp,dp',ep,fp,rfl⟩
 | [],h=>simp at h
 | [_],h=>simp at h
 | [_,_],h=>simp at h
 | [_,_,_],h=>simp at h
 | [_,_,_,_],h=>simp at h
 | [_,_,_,_,_],h=>simp at h
 | _ :: _ :: _ :: _ :: _ :: _ :: _ :: _,h=>simp at h
theorem nt_1 (S:List UInt8) (g:Nat) (p2 p3 p4 p5 e:Int):nmT [58] (tyf (g + 19)) 5 [] [] [⟨1,S,p2⟩,⟨4,[58],p3⟩,⟨1,[105,110,116],p4⟩,⟨4,[125],p5⟩,⟨0,[],e⟩]=.inr ([S],[((⟨5,[]⟩,[]):TT (g + 19))],[⟨0,[],e⟩]):=by kernel_rfl
theorem nt_2 (S:List UInt8) (g:Nat) (p2 p3 p4 p5 e:Int):nmT [58] (tyf (g + 19)) 5 [] [] [⟨2,S,p2⟩,⟨4,[58],p3⟩,⟨1,[105,110,116],p4⟩,⟨4,[125],p5⟩,⟨0,[],e⟩]=.inr ([S],[((⟨5,[]⟩,[]):TT (g + 19))],[⟨0,[],e⟩]):=by kernel_rfl
theorem fd_of {m:Nat} {M:List Tk→Sum Int (TT m×List Tk)} {p1:Int} {t:Tk} {r:List Tk} {y:List (List UInt8)×List (TT m)×List Tk} (ht:ownT t≠[125]) (h:nmT [58] M (t :: r).length [] [] (t :: r)=.inr y):fdT M 10 (⟨4,[123],p1⟩ :: t :: r)=.inr ((⟨10,y.1.map mkB⟩,y.2.1),y.2.2):=by
 have e1:wantL [123] (⟨4,[123],p1⟩ :: t :: r)=.inr (t :: r):=rfl
 have e2:hasL [125] (t :: r)=(false,t :: r):=by simp [hasL,hasT,ht]
 have e3:namedT [58] M (t :: r)=.inr y:=by
  unfold namedT
  rw [e2]
  exact h
 unfold fdT
 rw [e1]
 show (match namedT [58] M (t :: r) with | .inl p=>_ | .inr y=>_)=_
 rw [e3]
theorem ty_rec {m:Nat} (M:List Tk→Sum Int (TT m×List Tk)) (p0:Int) (r:List Tk):tyT M (⟨1,[114,101,99,111,114,100],p0⟩ :: r)=fdT M 10 r:=by simp [tyT,ownT]
theorem no_brace (S:List UInt8) (h:isT nok 1 S=true):S≠[125]:=by
 rintro rfl
 have:isT nok 1 [125]=false:=by kernel_rfl
 rw [this] at h
 cases h
theorem rec_rd (g:Nat) (nm:ByteArray) (h1:Go.Proofs.YtcnfchblfcfimaaGreatDoor.okT nm=true) (h2:nm.size≤64):rdRt (g + 20) (prR (rtk (ntk (bl nm)))).2=.inr (recT nm (g + 18)):=by
 obtain ⟨k1,k2,k3,k4⟩:=ntk_ok nm h1 h2
 obtain ⟨m,a,hs,hm⟩:=scR_of (rec_pr nm h1 h2)
 obtain ⟨p0,p1,p2,p3,p4,p5,rfl⟩:=same6 hm
 rw [rdt_tok hs,ntk_s]
 rw [ntk_s] at k1
 have key:∀ (e:Int),tyf (g + 20) [⟨1,[114,101,99,111,114,100],p0⟩,⟨4,[123],p1⟩,⟨(ntk (bl nm)).w,bl nm,p2⟩,⟨4,[58],p3⟩,⟨1,[105,110,116],p4⟩,⟨4,[125],p5⟩,⟨0,[],e⟩]=.inr (recT (mkB (bl nm)) (g + 18),[⟨0,[],e⟩]):=by
  intro e
  refine (show tyf (g + 20) _=tyT (tyf (g + 19)) _ from rfl).trans ?_
  rw [ty_rec]
  rcases k3 with k|k
  ·rw [k] at k1 ⊢
   exact fd_of (M:=tyf (g + 19)) (t:=⟨1,bl nm,p2⟩) (r:=[⟨4,[58],p3⟩,⟨1,[105,110,116],p4⟩,⟨4,[125],p5⟩,⟨0,[],e⟩]) (no_brace _ k1) (nt_1 (bl nm) g p2 p3 p4 p5 e)
  ·rw [k]
   exact fd_of (M:=tyf (g + 19)) (t:=⟨2,bl nm,p2⟩) (r:=[⟨4,[58],p3⟩,⟨1,[105,110,116],p4⟩,⟨4,[125],p5⟩,⟨0,[],e⟩]) (by show ([]:List UInt8)≠[125];simp) (nt_2 (bl nm) g p2 p3 p4 p5 e)
 have:=key ((prR (rtk (ntk (bl nm)))).2.length:Nat)
 rw [mkB_bl2] at this
 show rdOt (endRt (tyf (g + 20) [_,_,_,_,_,_,_]))=_
 rw [this]
 rfl
theorem get_px (nm:ByteArray) (n:Nat):prX dq (n + 1) (leafE 2 nm n)=if nmC 140 nm=0 then ((((prR [mk [46],ntk (bl nm)]).1:Nat):Int),(prR [mk [46],ntk (bl nm)]).2) else (nmC 140 nm,[]):=by
 unfold prX
 rw [lck_leaf 2 (Or.inl rfl)]
 rfl
theorem tag_px (nm:ByteArray) (n:Nat):prX dq (n + 1) (leafE 5 nm n)=if nmC 140 nm=0 then ((((prR [wd [116,97,103],ntk (bl nm)]).1:Nat):Int),(prR [wd [116,97,103],ntk (bl nm)]).2) else (nmC 140 nm,[]):=by
 unfold prX
 rw [lck_leaf 5 (Or.inr rfl)]
 rfl
theorem rec_px (nm:ByteArray) (n:Nat):prT dq (n + 2) (recT nm n)=if nmC 110 nm=0 then ((((prR (rtk (ntk (bl nm)))).1:Nat):Int),(prR (rtk (ntk (bl nm)))).2) else (nmC 110 nm,[]):=by
 unfold prT
 rw [tck_rec]
 rfl
theorem nmC_ok {b:Int} {nm:ByteArray} (hb:b≠0):nmC b nm=0↔Go.Proofs.YtcnfchblfcfimaaGreatDoor.okT nm=true∧nm.size≤64:=by
 unfold nmC
 split
 ·rename_i h
  split
  ·rename_i k;exact ⟨fun _=>⟨h,k⟩,fun _=>rfl⟩
  ·rename_i k;exact ⟨fun q=>absurd q (by decide),fun q=>absurd q.2 k⟩
 ·rename_i h;exact ⟨fun q=>absurd q hb,fun q=>absurd q.1 h⟩
theorem get_pa (g:Nat) (nm:ByteArray) (h:nmC 140 nm=0):paR dq (g + 20) (prR [mk [46],ntk (bl nm)]).2=.inr (leafE 2 nm _):=by
 obtain ⟨h1,h2⟩:=(nmC_ok (by decide)).1 h
 unfold paR
 rw [get_rd g nm h1 h2]
 show (if lck dq _ _=0 then _ else _)=_
 rw [lck_leaf 2 (Or.inl rfl),if_pos h]
theorem tag_pa (g:Nat) (nm:ByteArray) (h:nmC 140 nm=0):paR dq (g + 20) (prR [wd [116,97,103],ntk (bl nm)]).2=.inr (leafE 5 nm _):=by
 obtain ⟨h1,h2⟩:=(nmC_ok (by decide)).1 h
 unfold paR
 rw [tag_rd g nm h1 h2]
 show (if lck dq _ _=0 then _ else _)=_
 rw [lck_leaf 5 (Or.inr rfl),if_pos h]
theorem rec_pa (g:Nat) (nm:ByteArray) (h:nmC 140 nm=0):paT dq (g + 20) (prR (rtk (ntk (bl nm)))).2=.inr (recT nm (g + 18)):=by
 obtain ⟨h1,h2⟩:=(nmC_ok (by decide)).1 h
 have h':nmC 110 nm=0:=(nmC_ok (by decide)).2 ⟨h1,h2⟩
 unfold paT
 rw [rec_rd g nm h1 h2]
 show (if tck dq (g + 18 + 2) _=0 then _ else _)=_
 rw [tck_rec,if_pos h']
end Lx
end Go.Proofs.YtcnfchblfcfimaaGreatDoor
namespace Go.Proofs.YtcnfchblfcfimaaGreatDoor
namespace Lx
open Go.RowKit
structure Be2 (w:World) (h:Eh) (q q':Sl) (W:World):Prop where
 below:Below w.heap.size w W
 ba:Ex W w.heap.size h q
 bb:Ex W (w.heap.size + 1) h q'
theorem Be2.then {w W W1:World} {h:Eh} {q q':Sl} (k:Be2 w h q q' W) (hb:Below W.heap.size W W1):Be2 w h q q' W1:=⟨below_then k.below hb,k.ba.below hb,k.bb.below hb⟩
theorem Be2.new (w:World) (h:Eh) (q q':Sl):Be2 w h q q' ((w.alloc (.cells (ecl h q) 33)).alloc (.cells (ecl h q') 33)):=by
 refine ⟨below_al (below_al (Below.refl _ _)),(ex_new w h q).below (below_al (Below.refl _ _)),?_⟩
 have:=ex_new (w.alloc (.cells (ecl h q) 33)) h q'
 rw [World.size_alloc] at this
 exact this
theorem belowE_dr {L:Nat} {w W:World} (h:Below L w W):Below L w W.drew:=h.drew
theorem belowE_dn {L:Nat} {w W:World} (h:Below L w W) (n:Nat):Below L w (W.drewN n):=h.trans (below_drewN _ _ _)
set_option maxHeartbeats 4000000 in
set_option maxRecDepth 100000 in
theorem esame_any:∀ (n:Nat) (x:ET n) (q q':Sl) (w:World),RE n w x q→RE n w x q' →
  Calls Tryz.prog 12 #[.agg (ecl (ehd n x) q),.agg (ecl (ehd n x) q')] w fun e w'=>e=.returned (.bool true)∧Below w.heap.size w w':=by
 intro n
 induction n with
 | zero=>intro x;exact Empty.elim x
 | succ n ih =>
  intro x q q' w hr hr'
  obtain ⟨⟨op,nm,nms,vn,val⟩,l⟩:=x
  have hx:=hide hr
  have hy:=hide hr'
  have ih':=hide ih
  obtain ⟨al,cl,e1,hc1,hc2⟩:=hr.tl.len
  obtain ⟨an,cn,e2,hn1,hn2⟩:=hr.1.len
  obtain ⟨bl',dl,e3,hd1,hd2⟩:=hr'.tl.len
  obtain ⟨bn,dn,e4,ho1,ho2⟩:=hr'.1.len
  obtain ⟨x1,y1,z1,x2,y2,z2,x3,y3,z3,x4,y4,z4,hqs⟩:=hr.shape
  subst hqs
  obtain ⟨uz1,vz1,tz1,uz2,vz2,tz2,uz3,vz3,tz3,uz4,vz4,tz4,hqs⟩:=hr'.shape
  subst hqs
  obtain ⟨rfl,rfl,rfl⟩:=Value.slice.inj e1
  obtain ⟨rfl,rfl,rfl⟩:=Value.slice.inj e2
  obtain ⟨rfl,rfl,rfl⟩:=Value.slice.inj e3
  obtain ⟨rfl,rfl,rfl⟩:=Value.slice.inj e4
  have hv:=hide (fun W (hb:Below w.heap.size w W)=>Calls.tb (b:=true) (requal_any vn val val (.slice x3 y3 z3) (.slice x4 y4 z4) (.slice uz3 vz3 tz3) (.slice uz4 vz4 tz4) W (hr.2.1.below hb) (hr'.2.1.below hb)) (by simp))
  have ml:maxLen=9223372036854775807:=rfl
  clear ih hr hr' e1 e2 e3 e4
  simp only at hn1 hn2 hc1 hc2 hd1 hd2 ho1 ho2
  have T0:=hide (Be2.new w ⟨op,nm,nms,vn,val⟩ ⟨.slice x1 nms.length z1,.slice x2 l.length z2,.slice x3 y3 z3,.slice x4 y4 z4⟩ ⟨.slice uz1 nms.length tz1,.slice uz2 l.length tz2,.slice uz3 vz3 tz3,.slice uz4 vz4 tz4⟩)
  show Calls _ _ #[.agg (ecl ⟨op,nm,nms,vn,val⟩ _),.agg (ecl ⟨op,nm,nms,vn,val⟩ _)] _ _
  unfold ecl at T0 ⊢
  unfold vals at hv
  dsimp only at T0 hv ⊢
  go_enter Tryz.func12, Tryz.ntmps12
  go_wp2_with (go_at_call 30;refine Sto.out ?_)
  refine Sto.mk ?_
  refine (hv.out _ T0.out.below).mono ?_
  rintro e w1 ⟨rfl,hb1⟩
  have T1:=hide (T0.out.then hb1)
  clear hb1 T0 hv
  go_wp2_with fail
  go_loopw [5] (fun i w'=>∃ k:Nat,i=.int .i64 k∧k≤nms.length∧Hid (Be2 w ⟨op,nm,nms,vn,val⟩ ⟨.slice x1 nms.length z1,.slice x2 l.length z2,.slice x3 y3 z3,.slice x4 y4 z4⟩ ⟨.slice uz1 nms.length tz1,.slice uz2 l.length tz2,.slice uz3 vz3 tz3,.slice uz4 vz4 tz4⟩ w')) (fun i _=>nms.length - (intOf i).toNat)
  case atStart=>exact ⟨0,rfl,Nat.zero_le _,T1.out⟩
  case round =>
   clear T1
   obtain ⟨k,rfl,hk',H⟩:=hrel
   have x0:=H.out.ba.cells
   have y0:=H.out.bb.cells
   by_cases hkl:k<nms.length
   ·have hki:(k:Int)<(nms.length:Int):=by omega
    have hk63:(k:Int)<9223372036854775807:=by omega
    obtain ⟨b,o,c,he,hbl,hlc,hcm,hcell⟩:=hx.out.1.at k hkl
    have he':=Value.slice.inj he
    obtain ⟨rfl,_,rfl⟩:=he'
    clear he
    have hcell:=(H.out.below.cell (p:=⟨b,o + k,none⟩) hbl).trans hcell
    obtain ⟨b',o',c',he,hbl',hlc',hcm',hcell'⟩:=hy.out.1.at k hkl
    have he':=Value.slice.inj he
    obtain ⟨rfl,_,rfl⟩:=he'
    clear he
    have hcell':=(H.out.below.cell (p:=⟨b',o' + k,none⟩) hbl').trans hcell'
    obtain ⟨s,hs⟩:∃ s,nms[k]=s:=⟨_,rfl⟩
    simp only at hcell hcell'
    rw [hs] at hcell hcell'
    clear hs
    go_wp2_with fail
    go_quiet (fail)
    go_wp2_with fail
    exact ⟨⟨k + 1,by go_num,by omega,H.out.then (belowE_dn (Below.refl _ _) _)⟩,by simp [intOf];omega⟩
   ·have hki:¬ ((k:Int)<(nms.length:Int)):=by omega
    have T1:=H
    clear H
    go_wp2_with fail
    go_loopw [6] (fun i w'=>∃ k:Nat,i=.int .i64 k∧k≤l.length∧Hid (Be2 w ⟨op,nm,nms,vn,val⟩ ⟨.slice x1 nms.length z1,.slice x2 l.length z2,.slice x3 y3 z3,.slice x4 y4 z4⟩ ⟨.slice uz1 nms.length tz1,.slice uz2 l.length tz2,.slice uz3 vz3 tz3,.slice uz4 vz4 tz4⟩ w')) (fun i _=>l.length - (intOf i).toNat)
    case atStart=>exact ⟨0,rfl,Nat.zero_le _,T1.out⟩
    case round =>
     clear T1 x0 y0 hki hk' hkl
     obtain ⟨k,rfl,hk',H⟩:=hrel
     have x0:=H.out.ba.cells
     have y0:=H.out.bb.cells
     by_cases hkl:k<l.length
     ·have hki:(k:Int)<(l.length:Int):=by omega
      have hk63:(k:Int)<9223372036854775807:=by omega
      obtain ⟨b1,o1,f1,he,hbl1,hlc1,hcm1,q1,hrg1,hrd1⟩:=hx.out.tl.at k hkl
      have he':=Value.slice.inj he
      obtain ⟨rfl,_,rfl⟩:=he'
      clear he
      obtain ⟨b2,o2,f2,he,hbl2,hlc2,hcm2,q2,hrg2,hrd2⟩:=hy.out.tl.at k hkl
      have he':=Value.slice.inj he
      obtain ⟨rfl,_,rfl⟩:=he'
      clear he
      have hd1':=hide hrd1
      have hd2':=hide hrd2
      obtain ⟨c1,c2,c3,c4,c5,c6,c7,c8,c9,c10,c11,c12,hqs⟩:=hrd1.shape
      subst hqs
      obtain ⟨d1,d2,d3,d4,d5,d6,d7,d8,d9,d10,d11,d12,hqs⟩:=hrd2.shape
      subst hqs
      have r0:=range13 (rangeAt_below hrg1 H.out.below hbl1)
      have s0:=range13 (rangeAt_below hrg2 H.out.below hbl2)
      clear hrg1 hrd1 hrg2 hrd2
      have hcall:=hide (fun W (hW:Below wr.heap.size wr W)=>ih'.out l[k] _ _ W (hd1'.out.below (below_then H.out.below hW)) (hd2'.out.below (below_then H.out.below hW)))
      simp only at r0 s0 hcall
      obtain ⟨hp,hhp⟩:∃ hp,ehd n l[k]=hp:=⟨_,rfl⟩
      rw [hhp] at r0 s0 hcall
      clear hhp
      simp only [ecl] at hcall
      go_wp2_with fail
      go_region_law (first|(go_simp;go_at_call 12;refine (hcall.out _ (by repeat (first|exact Below.refl _ _|refine belowE_dr ?_|refine belowE_dn ?_ _))).mono ?_;rintro e w3 ⟨rfl,hb3⟩;have T3:Hid (Below wr.heap.size wr w3):=below_then (by repeat (first|exact Below.refl _ _|refine belowE_dr ?_|refine belowE_dn ?_ _)) hb3;clear hb3;dsimp only))
      all_goals
       go_simp
       go_wp2_with fail
       exact ⟨⟨k + 1,by go_num,by omega,H.out.then T3.out⟩,by simp [intOf];omega⟩
     ·have hki:¬ ((k:Int)<(l.length:Int)):=by omega
      go_wp2_with fail
      go_ret
      exact ⟨rfl,H.out.below⟩
end Lx
end Go.Proofs.YtcnfchblfcfimaaGreatDoor
namespace Go.Proofs.YtcnfchblfcfimaaGreatDoor
namespace Lx
open Go.RowKit
variable {dq : {_f : (p : Prop) → Decidable p // True}}
set_option maxRecDepth 100000
theorem re_leaf (op:Int) (nm:ByteArray) (n:Nat) (W:World):RE (n + 1) W (leafE op nm n) zs:=⟨Or.inl ⟨rfl,rfl⟩,rd_vz W,Or.inl ⟨rfl,rfl⟩⟩
theorem ge_leaf (op:Int) (nm:ByteArray) (n:Nat) (h:nm.size≤16384):GE (n + 1) (leafE op nm n):=by
 obtain ⟨h1,h2⟩:=vh_z 0 false false nilB 0 nilB nil_z nil_z
 exact ⟨⟨by show nm.size≤_;omega,Nat.zero_le _,fun s hs=>absurd hs (by simp [leafE]),h1,h2⟩,Nat.zero_le _,fun y hy=>absurd hy (by simp [leafE])⟩
theorem gt_rec (nm:ByteArray) (n:Nat) (h:nm.size≤16384):GT (n + 2) (recT nm n) :=
 ⟨by show 1≤100000;omega,fun s hs=>by rw [show s=nm from List.mem_singleton.1 hs];omega,by show 1≤100000;omega,fun y hy=>by
  rw [show y=((⟨5,[]⟩,[]):TT (n + 1)) from List.mem_singleton.1 hy]
  exact ⟨Nat.zero_le _,fun s hs=>absurd hs (by simp),Nat.zero_le _,fun z hz=>absurd hz (by simp)⟩⟩
theorem rt_rec (nm:ByteArray) (n:Nat) (W:World) (b1 b2:Nat) (h1:W.heap[b1]?=some (.cells #[.string nm] 9 (0,0))) (h2:W.heap[b2]?=some (.cells #[.int .i64 5,.slice none 0 0,.slice none 0 0] 48 (0,0))):RTq (n + 2) W (recT nm n) ⟨.slice (some ⟨b1,0,none⟩) 1 1,.slice (some ⟨b2,0,none⟩) 1 1⟩:=by
 refine ⟨Or.inr ⟨b1,0,1,none,rfl,by show 1≤1;omega,by decide,fun _=>⟨rfl,(Array.getElem?_eq_some_iff.1 h1).1⟩,fun i hi=>?_⟩,Or.inr ⟨b2,0,1,none,rfl,by show 1≤1;omega,by decide,fun _=>⟨rfl,(Array.getElem?_eq_some_iff.1 h2).1⟩,fun i hi=>?_⟩⟩
 ·have hi0:i=0:=by have:i<1:=hi;omega
  subst hi0
  unfold World.cell?
  rw [h1]
  rfl
 ·have hi0:i=0:=by have:i<1:=hi;omega
  subst hi0
  refine ⟨.slice none 0 0,.slice none 0 0,fun j v hj=>?_,Or.inl ⟨rfl,rfl⟩,Or.inl ⟨rfl,rfl⟩⟩
  unfold World.cell?
  rw [h2]
  have hj':([.int .i64 5,.slice none 0 0,.slice none 0 0]:List Value)[j]?=some v:=hj
  simpa using hj'
set_option maxHeartbeats 4000000 in
set_option maxRecDepth 100000 in
theorem names_long (nm:ByteArray) (w:World) (h:(16384:Int)<(nm.size:Int)):Calls Tryz.prog 8 #[.string nm] w fun e w'=>e=.returned (.bool true)∧Below w.heap.size w w':=by
 go_enter Tryz.func8, Tryz.ntmps8
 go_wp2_with fail
 go_ret
 exact ⟨rfl,Below.refl _ _⟩
theorem sz_leaf (op:Int) (nm:ByteArray):esiz 1 (leafE op nm 0)≤200000:=by show 1 + 0≤200000;omega
theorem sz_rec (nm:ByteArray):tsiz 2 (recT nm 0)≤200000:=by show 1 + (1 + 0 + 0)≤200000;omega
def gC (op:Int) (nm:ByteArray):Array Value:=#[.int .i64 op,.string nm,.slice none 0 0,.slice none 0 0,.int .i64 0,.bool false,.bool false,.string ⟨#[]⟩,.int .i64 0,.int .u64 0,.string ⟨#[]⟩,.slice none 0 0,.slice none 0 0]
structure NB (w:World) (nm:ByteArray) (W:World):Prop where
 bel:Below w.heap.size w W
 g:W.heap[w.heap.size]?=some (.cells (gC 2 nm) 33 (0,0))
 t:W.heap[w.heap.size + 1]?=some (.cells (gC 5 nm) 33 (0,0))
 n:W.heap[w.heap.size + 1 + 1]?=some (.cells #[.string nm] 9 (0,0))
 l:W.heap[w.heap.size + 1 + 1 + 1]?=some (.cells #[.int .i64 5,.slice none 0 0,.slice none 0 0] 48 (0,0))
 r:W.heap[w.heap.size + 1 + 1 + 1 + 1]?=some (.cells #[.int .i64 10,.slice (some ⟨w.heap.size + 1 + 1,0,none⟩) 1 1,.slice (some ⟨w.heap.size + 1 + 1 + 1,0,none⟩) 1 1] 48 (0,0))
theorem low_k {W:World} {o:Obj} {i:Nat} {c:Option Obj} (hi:i<W.heap.size) (h:W.heap[i]?=c):(W.alloc o).heap[i]?=c:=(Below.heap_alloc _ _ _ hi).trans h
theorem NB.new (w:World) (nm:ByteArray):NB w nm (((((w.alloc (.cells (gC 2 nm) 33)).alloc (.cells (gC 5 nm) 33)).alloc (.cells #[.string nm] 9)).alloc (.cells #[.int .i64 5,.slice none 0 0,.slice none 0 0] 48)).alloc (.cells #[.int .i64 10,.slice (some ⟨w.heap.size + 1 + 1,0,none⟩) 1 1,.slice (some ⟨w.heap.size + 1 + 1 + 1,0,none⟩) 1 1] 48)):=by
 refine ⟨below_al (below_al (below_al (below_al (below_al (Below.refl _ _))))),?_,?_,?_,?_,?_⟩
 ·exact low_k (by simp <;> omega) (low_k (by simp <;> omega) (low_k (by simp <;> omega) (low_k (by simp) (last_at rfl))))
 ·exact low_k (by simp <;> omega) (low_k (by simp <;> omega) (low_k (by simp) (last_at (by simp))))
 ·exact low_k (by simp <;> omega) (low_k (by simp) (last_at (by simp)))
 ·exact low_k (by simp) (last_at (by simp))
 ·exact last_at (by simp)
section
variable {w W W1 : World} {nm : ByteArray}
theorem NB.below (H:NB w nm W) (hb:Below W.heap.size W W1):NB w nm W1:=by
 have lt:∀ {i:Nat} {o:Obj},W.heap[i]?=some o→i<W.heap.size:=fun h=>(Array.getElem?_eq_some_iff.1 h).1
 exact ⟨below_then H.bel hb,(hb.block _ (lt H.g)).trans H.g,(hb.block _ (lt H.t)).trans H.t,(hb.block _ (lt H.n)).trans H.n,(hb.block _ (lt H.l)).trans H.l,(hb.block _ (lt H.r)).trans H.r⟩
theorem NB.exg (H:NB w nm W):Ex W w.heap.size (⟨2,nm,[],1,vz⟩:Eh) zs:=⟨H.g⟩
theorem NB.ext (H:NB w nm W):Ex W (w.heap.size + 1) (⟨5,nm,[],1,vz⟩:Eh) zs:=⟨H.t⟩
theorem NB.rt (H:NB w nm W) (n:Nat):RTq (n + 2) W (recT nm n) ⟨.slice (some ⟨w.heap.size + 1 + 1,0,none⟩) 1 1,.slice (some ⟨w.heap.size + 1 + 1 + 1,0,none⟩) 1 1⟩:=rt_rec nm n W _ _ H.n H.l
theorem NB.cg (H:NB w nm W):W.cell? ⟨w.heap.size,0,none⟩=some (.int .i64 2)∧W.cell? ⟨w.heap.size,1,none⟩=some (.string nm)∧W.cell? ⟨w.heap.size,2,none⟩=some (.slice none 0 0)∧W.cell? ⟨w.heap.size,3,none⟩=some (.slice none 0 0)∧W.cell? ⟨w.heap.size,4,none⟩=some (.int .i64 0)∧W.cell? ⟨w.heap.size,5,none⟩=some (.bool false)∧W.cell? ⟨w.heap.size,6,none⟩=some (.bool false)∧W.cell? ⟨w.heap.size,7,none⟩=some (.string ⟨#[]⟩)∧W.cell? ⟨w.heap.size,8,none⟩=some (.int .i64 0)∧W.cell? ⟨w.heap.size,9,none⟩=some (.int .u64 0)∧W.cell? ⟨w.heap.size,10,none⟩=some (.string ⟨#[]⟩)∧W.cell? ⟨w.heap.size,11,none⟩=some (.slice none 0 0)∧W.cell? ⟨w.heap.size,12,none⟩=some (.slice none 0 0):=H.exg.cells
theorem NB.ct (H:NB w nm W):W.cell? ⟨w.heap.size + 1,0,none⟩=some (.int .i64 5)∧W.cell? ⟨w.heap.size + 1,1,none⟩=some (.string nm)∧W.cell? ⟨w.heap.size + 1,2,none⟩=some (.slice none 0 0)∧W.cell? ⟨w.heap.size + 1,3,none⟩=some (.slice none 0 0)∧W.cell? ⟨w.heap.size + 1,4,none⟩=some (.int .i64 0)∧W.cell? ⟨w.heap.size + 1,5,none⟩=some (.bool false)∧W.cell? ⟨w.heap.size + 1,6,none⟩=some (.bool false)∧W.cell? ⟨w.heap.size + 1,7,none⟩=some (.string ⟨#[]⟩)∧W.cell? ⟨w.heap.size + 1,8,none⟩=some (.int .i64 0)∧W.cell? ⟨w.heap.size + 1,9,none⟩=some (.int .u64 0)∧W.cell? ⟨w.heap.size + 1,10,none⟩=some (.string ⟨#[]⟩)∧W.cell? ⟨w.heap.size + 1,11,none⟩=some (.slice none 0 0)∧W.cell? ⟨w.heap.size + 1,12,none⟩=some (.slice none 0 0):=H.ext.cells
theorem NB.cr (H:NB w nm W):W.cell? ⟨w.heap.size + 1 + 1 + 1 + 1,0,none⟩=some (.int .i64 10)∧W.cell? ⟨w.heap.size + 1 + 1 + 1 + 1,1,none⟩=some (.slice (some ⟨w.heap.size + 1 + 1,0,none⟩) 1 1)∧W.cell? ⟨w.heap.size + 1 + 1 + 1 + 1,2,none⟩=some (.slice (some ⟨w.heap.size + 1 + 1 + 1,0,none⟩) 1 1):=by
 have:=H.r
 refine ⟨?_,?_,?_⟩ <;> (unfold World.cell?;rw [this];rfl)
end
set_option maxHeartbeats 8000000 in
set_option maxRecDepth 100000 in
theorem names_no (hP:ParseOk) (gk:Nat) (hg:1005≤gk) (nm:ByteArray) (w:World) (g:Gw w) (hz:nm.size≤16384) (hc:¬ nmC 140 nm=0):Calls Tryz.prog 8 #[.string nm] w fun e w'=>e=.returned (.bool true)∧Below w.heap.size w w':=by
 have dq:{_f:(p:Prop)→Decidable p // True}:=⟨fun p=>Classical.propDecidable p,trivial⟩
 have hz2:¬ (16384:Int)<(nm.size:Int):=by omega
 have hc2:¬ nmC 110 nm=0:=fun q=>hc ((nmC_ok (by decide)).2 ((nmC_ok (by decide)).1 q))
 have pg:=hide (fun W (hb:Below w.heap.size w W)=>print_is (dq:=dq) hP 1 (leafE 2 nm 0) zs W (re_leaf 2 nm 0 W) (ge_leaf 2 nm 0 hz) (sz_leaf 2 nm) (g.below hb).gs)
 have pt:=hide (fun W (hb:Below w.heap.size w W)=>print_is (dq:=dq) hP 1 (leafE 5 nm 0) zs W (re_leaf 5 nm 0 W) (ge_leaf 5 nm 0 hz) (sz_leaf 5 nm) (g.below hb).gs)
 have pr:=hide (fun W (hb:Below w.heap.size w W) q (h:RTq 2 W (recT nm 0) q)=>ptprint_is (dq:=dq) hP 2 (recT nm 0) q W h (gt_rec nm 0 hz) (sz_rec nm) (g.below hb).gs (g.below hb).gt)
 have ck:=hide (fun W (hb:Below w.heap.size w W)=>check_is (dq:=dq) 1 (leafE 2 nm 0) zs W (re_leaf 2 nm 0 W) ⟨ge_leaf 2 nm 0 hz,(g.below hb).gs.gg.gu⟩ (sz_leaf 2 nm))
 have aw:=hide (fun W (hb:Below w.heap.size w W)=>awake_any hP gk hg W (g.below hb))
 rw [get_px,if_neg hc] at pg
 rw [tag_px,if_neg hc] at pt
 rw [rec_px,if_neg hc2] at pr
 rw [lck_leaf 2 (Or.inl rfl)] at ck
 obtain ⟨c,hcc⟩:∃ c,nmC 140 nm=c:=⟨_,rfl⟩
 obtain ⟨d,hdd⟩:∃ d,nmC 110 nm=d:=⟨_,rfl⟩
 rw [hcc] at pg pt ck hc
 rw [hdd] at pr hc2
 have ez:∀ op,ecl (ehd 1 (leafE op nm 0)) zs=#[.int .i64 op,.string nm,.slice none 0 0,.slice none 0 0,.int .i64 0,.bool false,.bool false,.string ⟨#[]⟩,.int .i64 0,.int .u64 0,.string ⟨#[]⟩,.slice none 0 0,.slice none 0 0]:=fun _=>rfl
 rw [ez] at pg pt ck
 have er:∀ q,tcl (thd 2 (recT nm 0)) q=#[.int .i64 10,q.ns,q.ls]:=fun _=>rfl
 simp only [er] at pr
 have em:mkB []=⟨#[]⟩:=rfl
 dsimp only at pg pt pr
 rw [em] at pg pt pr
 have b1:(c==0)=false:=by simp [hc]
 have b2:(d==0)=false:=by simp [hc2]
 have N0:=hide (NB.new w nm)
 unfold gC at N0
 clear hcc hdd ez er em hP g hz
 go_enter Tryz.func8, Tryz.ntmps8
 go_wp2_with (go_at_call 15;refine Sto.out ?_)
 refine Sto.mk ?_
 refine (pg.out _ N0.out.bel).mono ?_
 rintro e w1 ⟨rfl,hb1⟩
 have N1:=hide (N0.out.below hb1)
 have k1:=N1.out.ct
 clear hb1 pg N0
 go_wp2_with (go_at_call 15;refine Sto.out ?_)
 refine Sto.mk ?_
 refine (pt.out _ N1.out.bel).mono ?_
 rintro e w2 ⟨rfl,hb2⟩
 have N2:=hide (N1.out.below hb2)
 have k2:=N2.out.cr
 have pr2:=hide (pr.out _ N2.out.bel _ (N2.out.rt 0))
 dsimp only at pr2
 clear hb2 pt N1 k1 pr
 go_wp2_with (go_at_call 22;refine Sto.out ?_)
 refine Sto.mk ?_
 refine pr2.out.mono ?_
 rintro e w3 ⟨rfl,hb3⟩
 have N3:=hide (N2.out.below hb3)
 have k3:=N3.out.cg
 clear hb3 N2 k2 pr2
 go_wp2_with (go_at_call 16;refine Sto.out ?_)
 refine Sto.mk ?_
 refine (ck.out _ N3.out.bel).mono ?_
 rintro e w4 ⟨rfl,hb4⟩
 have N4:=hide (N3.out.below hb4)
 clear hb4 N3 k3
 go_wp2_with (go_at_call 11;refine Sto.out ?_)
 refine Sto.mk ?_
 refine (aw.out _ N4.out.bel).mono ?_
 rintro e w5 ⟨rfl,hb5⟩
 have N5:=hide (N4.out.below hb5)
 have k5:=N5.out.cg
 clear hb5 N4
 go_wp2_with (go_at_call 16;refine Sto.out ?_)
 refine Sto.mk ?_
 refine (ck.out _ N5.out.bel).mono ?_
 rintro e w6 ⟨rfl,hb6⟩
 have B6:=hide (N5.out.below hb6).bel
 clear hb6 N5 k5
 have hd0:(d != 0)=true:=by simp [hc2]
 go_wp2_with fail
 go_ret
 exact ⟨rfl,B6.out⟩
theorem prR_len {l:List Tk} (h:(prR l).1=0):(mkB (prR l).2).size≤1000000:=by
 rw [mkB_size]
 have:=(pr_round l h).2.2
 omega
set_option maxHeartbeats 8000000 in
set_option maxRecDepth 100000 in
theorem names_yes (hP:ParseOk) (gk:Nat) (hg:1005≤gk) (nm:ByteArray) (w:World) (g:Gw w) (hz:nm.size≤16384) (hc:nmC 140 nm=0):Calls Tryz.prog 8 #[.string nm] w fun e w'=>e=.returned (.bool true)∧Below w.heap.size w w':=by
 have dq:{_f:(p:Prop)→Decidable p // True}:=⟨fun p=>Classical.propDecidable p,trivial⟩
 have hz2:¬ (16384:Int)<(nm.size:Int):=by omega
 have hf:1025≤gk + 20:=by omega
 obtain ⟨o1,o2⟩:=(nmC_ok (by decide)).1 hc
 have hc2:nmC 110 nm=0:=(nmC_ok (by decide)).2 ⟨o1,o2⟩
 have e1:=get_pr nm o1 o2
 have e2:=tag_pr nm o1 o2
 have e3:=rec_pr nm o1 o2
 have pg:=hide (fun W (hb:Below w.heap.size w W)=>print_is (dq:=dq) hP 1 (leafE 2 nm 0) zs W (re_leaf 2 nm 0 W) (ge_leaf 2 nm 0 hz) (sz_leaf 2 nm) (g.below hb).gs)
 have pt:=hide (fun W (hb:Below w.heap.size w W)=>print_is (dq:=dq) hP 1 (leafE 5 nm 0) zs W (re_leaf 5 nm 0 W) (ge_leaf 5 nm 0 hz) (sz_leaf 5 nm) (g.below hb).gs)
 have pr:=hide (fun W (hb:Below w.heap.size w W) q (h:RTq 2 W (recT nm 0) q)=>ptprint_is (dq:=dq) hP 2 (recT nm 0) q W h (gt_rec nm 0 hz) (sz_rec nm) (g.below hb).gs (g.below hb).gt)
 have ck:=hide (fun W (hb:Below w.heap.size w W)=>check_is (dq:=dq) 1 (leafE 2 nm 0) zs W (re_leaf 2 nm 0 W) ⟨ge_leaf 2 nm 0 hz,(g.below hb).gs.gg.gu⟩ (sz_leaf 2 nm))
 have aw:=hide (fun W (hb:Below w.heap.size w W)=>awake_any hP gk hg W (g.below hb))
 have r1:=hide (fun W (hb:Below w.heap.size w W)=>parse_ok (dq:=dq) hP hf (g.below hb) (s:=mkB (prR [mk [46],ntk (bl nm)]).2) (prR_len e1) (x:=leafE 2 nm (dp (gk + 20))) (by rw [bl_mkB];exact get_pa gk nm hc))
 have r2:=hide (fun W (hb:Below w.heap.size w W)=>parse_ok (dq:=dq) hP hf (g.below hb) (s:=mkB (prR [wd [116,97,103],ntk (bl nm)]).2) (prR_len e2) (x:=leafE 5 nm (dp (gk + 20))) (by rw [bl_mkB];exact tag_pa gk nm hc))
 have r3:=hide (fun W (hb:Below w.heap.size w W)=>ptype_ok (dq:=dq) hP hf (g.below hb) (s:=mkB (prR (rtk (ntk (bl nm)))).2) (prR_len e3) (x:=recT nm (gk + 18)) (by rw [bl_mkB];exact rec_pa gk nm hc))
 have s1:=hide (fun op q W (hb:Below w.heap.size w W) (h:RE _ W (leafE op nm (dp (gk + 20))) q)=>esame_any _ (leafE op nm (dp (gk + 20))) q zs W h (re_leaf op nm _ W))
 have s3:=hide (fun (q q':S2) W (hb:Below w.heap.size w W) (h:RTq (gk + 18 + 2) W (recT nm (gk + 18)) q) (h':RTq (gk + 18 + 2) W (recT nm (gk + 18)) q')=>Calls.tb (b:=true) (rtsame_any (gk + 18 + 2) (recT nm (gk + 18)) (recT nm (gk + 18)) q.ns q.ls q'.ns q'.ls W h h') (by simp))
 rw [get_px,if_pos hc,e1] at pg
 rw [tag_px,if_pos hc,e2] at pt
 rw [rec_px,if_pos hc2,e3] at pr
 rw [lck_leaf 2 (Or.inl rfl),hc] at ck
 obtain ⟨A1,hA1⟩:∃ A,mkB (prR [mk [46],ntk (bl nm)]).2=A:=⟨_,rfl⟩
 obtain ⟨A2,hA2⟩:∃ A,mkB (prR [wd [116,97,103],ntk (bl nm)]).2=A:=⟨_,rfl⟩
 obtain ⟨A3,hA3⟩:∃ A,mkB (prR (rtk (ntk (bl nm)))).2=A:=⟨_,rfl⟩
 dsimp only at pg pt pr
 rw [hA1] at pg r1
 rw [hA2] at pt r2
 rw [hA3] at pr r3
 have ez:∀ op,ecl (ehd 1 (leafE op nm 0)) zs=#[.int .i64 op,.string nm,.slice none 0 0,.slice none 0 0,.int .i64 0,.bool false,.bool false,.string ⟨#[]⟩,.int .i64 0,.int .u64 0,.string ⟨#[]⟩,.slice none 0 0,.slice none 0 0]:=fun _=>rfl
 rw [ez] at pg pt ck
 have ex2:∀ op (q:Sl),ecl (ehd (dp (gk + 20) + 1) (leafE op nm (dp (gk + 20)))) q=#[.int .i64 op,.string nm,q.ns,q.ls,.int .i64 0,.bool false,.bool false,.string ⟨#[]⟩,.int .i64 0,.int .u64 0,.string ⟨#[]⟩,q.vs,q.vl]:=fun _ _=>rfl
 have er:∀ n q,tcl (thd (n + 2) (recT nm n)) q=#[.int .i64 10,q.ns,q.ls]:=fun _ _=>rfl
 have et:∀ n ns ls,tvs (thd (n + 2) (recT nm n)) ns ls=#[.int .i64 10,ns,ls]:=fun _ _ _=>rfl
 have er2:∀ q,tcl (thd (gk + 20) (recT nm (gk + 18))) q=#[.int .i64 10,q.ns,q.ls]:=fun _=>rfl
 simp only [ex2] at r1 r2 s1
 simp only [er] at pr
 simp only [er2] at r3
 simp only [et] at s3
 simp only [zs] at s1
 try dsimp only at pr
 have N0:=hide (NB.new w nm)
 unfold gC at N0
 clear hA1 hA2 hA3 ez er hP g hz o1 o2 e1 e2 e3 hc hc2 ex2 et er2 hf
 go_enter Tryz.func8, Tryz.ntmps8
 go_wp2_with (go_at_call 15;refine Sto.out ?_)
 refine Sto.mk ?_
 refine (pg.out _ N0.out.bel).mono ?_
 rintro e w1 ⟨rfl,hb1⟩
 have N1:=hide (N0.out.below hb1)
 have k1:=N1.out.ct
 clear hb1 pg N0
 go_wp2_with (go_at_call 15;refine Sto.out ?_)
 refine Sto.mk ?_
 refine (pt.out _ N1.out.bel).mono ?_
 rintro e w2 ⟨rfl,hb2⟩
 have N2:=hide (N1.out.below hb2)
 have k2:=N2.out.cr
 have pr2:=hide (pr.out _ N2.out.bel _ (N2.out.rt 0))
 dsimp only at pr2
 clear hb2 pt N1 k1 pr
 go_wp2_with (go_at_call 22;refine Sto.out ?_)
 refine Sto.mk ?_
 refine pr2.out.mono ?_
 rintro e w3 ⟨rfl,hb3⟩
 have N3:=hide (N2.out.below hb3)
 have k3:=N3.out.cg
 clear hb3 N2 k2 pr2
 go_wp2_with (go_at_call 16;refine Sto.out ?_)
 refine Sto.mk ?_
 refine (ck.out _ N3.out.bel).mono ?_
 rintro e w4 ⟨rfl,hb4⟩
 have N4:=hide (N3.out.below hb4)
 clear hb4 N3 k3 ck
 go_wp2_with (go_at_call 9;refine Sto.out ?_)
 refine Sto.mk ?_
 refine (r1.out _ N4.out.bel).mono ?_
 rintro e w5 ⟨q5,rfl,hr5,hb5⟩
 obtain ⟨x1,y1,z1,x2,y2,z2,x3,y3,z3,x4,y4,z4,hqs⟩:=hr5.shape
 subst hqs
 have X5:=hide (ex_new w5 (⟨2,nm,[],1,vz⟩:Eh) ⟨.slice x1 y1 z1,.slice x2 y2 z2,.slice x3 y3 z3,.slice x4 y4 z4⟩)
 have R5:=hide (hr5.below (below_al (o:=.cells (ecl (⟨2,nm,[],1,vz⟩:Eh) ⟨.slice x1 y1 z1,.slice x2 y2 z2,.slice x3 y3 z3,.slice x4 y4 z4⟩) 33) (Below.refl _ _)))
 have N5:=hide ((N4.out.below hb5).below (below_al (o:=.cells (ecl (⟨2,nm,[],1,vz⟩:Eh) ⟨.slice x1 y1 z1,.slice x2 y2 z2,.slice x3 y3 z3,.slice x4 y4 z4⟩) 33) (Below.refl _ _)))
 clear hr5 hb5 r1 N4
 simp only [ecl,vz,vH,vhd,nilB] at X5 R5 N5
 dsimp only at X5 R5 N5 ⊢
 go_wp2_with (go_at_call 9;refine Sto.out ?_)
 refine Sto.mk ?_
 refine (r2.out _ N5.out.bel).mono ?_
 rintro e w6 ⟨q6,rfl,hr6,hb6⟩
 obtain ⟨aa1,ab1,ac1,aa2,ab2,ac2,aa3,ab3,ac3,aa4,ab4,ac4,hqs⟩:=hr6.shape
 subst hqs
 have X6:=hide (ex_new w6 (⟨5,nm,[],1,vz⟩:Eh) ⟨.slice aa1 ab1 ac1,.slice aa2 ab2 ac2,.slice aa3 ab3 ac3,.slice aa4 ab4 ac4⟩)
 have hal:=hide (below_al (o:=.cells (ecl (⟨5,nm,[],1,vz⟩:Eh) ⟨.slice aa1 ab1 ac1,.slice aa2 ab2 ac2,.slice aa3 ab3 ac3,.slice aa4 ab4 ac4⟩) 33) (Below.refl w6.heap.size w6))
 have R6:=hide (hr6.below hal.out)
 have N6:=hide ((N5.out.below hb6).below hal.out)
 have X56:=hide ((X5.out.below hb6).below hal.out)
 have R56:=hide ((R5.out.below hb6).below hal.out)
 clear hr6 hb6 r2 N5 X5 R5 hal
 simp only [ecl,vz,vH,vhd,nilB] at X6 R6 N6 X56 R56
 dsimp only at X6 R6 N6 X56 R56 ⊢
 go_wp2_with (go_at_call 20;refine Sto.out ?_)
 refine Sto.mk ?_
 refine (r3.out _ N6.out.bel).mono ?_
 rintro e w7 ⟨q7,rfl,hr7,hb7⟩
 obtain ⟨ba1,bb1,bc1,ba2,bb2,bc2,hqs⟩:=RTq.shape hr7
 subst hqs
 have X7:=hide (show (w7.alloc (.cells #[.int .i64 10,.slice ba1 bb1 bc1,.slice ba2 bb2 bc2] 48)).heap[w7.heap.size]?=some (.cells #[.int .i64 10,.slice ba1 bb1 bc1,.slice ba2 bb2 bc2] 48 (0,0)) from Array.getElem?_push_size)
 have hal:=hide (below_al (o:=.cells #[.int .i64 10,.slice ba1 bb1 bc1,.slice ba2 bb2 bc2] 48) (Below.refl w7.heap.size w7))
 have R7:=hide (RTq.below hr7 hal.out)
 have N7:=hide ((N6.out.below hb7).below hal.out)
 have X57:=hide ((X56.out.below hb7).below hal.out)
 have R57:=hide ((R56.out.below hb7).below hal.out)
 have X67:=hide ((X6.out.below hb7).below hal.out)
 have R67:=hide ((R6.out.below hb7).below hal.out)
 clear hr7 hb7 r3 N6 X56 R56 X6 R6 hal
 dsimp only at X7 R7 N7 X57 R57 X67 R67 ⊢
 go_wp2_with (go_at_call 11;refine Sto.out ?_)
 refine Sto.mk ?_
 refine (aw.out _ N7.out.bel).mono ?_
 rintro e w8 ⟨rfl,hb8⟩
 have N8:=hide (N7.out.below hb8)
 have X58:=hide (X57.out.below hb8)
 have R58:=hide (R57.out.below hb8)
 have X68:=hide (X67.out.below hb8)
 have R68:=hide (R67.out.below hb8)
 have X78:=hide ((hb8.block _ (Array.getElem?_eq_some_iff.1 X7.out).1).trans X7.out)
 have R78:=hide (RTq.below R7.out hb8)
 have k8:=N8.out.cg
 have l8:=X58.out.cells
 have s8:=hide (s1.out 2 _ w8 N8.out.bel R58.out)
 dsimp only at s8 l8
 clear hb8 N7 X57 R57 X67 R67 X7 R7 aw
 go_wp2_with (go_at_call 12;refine Sto.out ?_)
 refine Sto.mk ?_
 refine s8.out.mono ?_
 rintro e w9 ⟨rfl,hb9⟩
 have N9:=hide (N8.out.below hb9)
 have X69:=hide (X68.out.below hb9)
 have R69:=hide (R68.out.below hb9)
 have X79:=hide ((hb9.block _ (Array.getElem?_eq_some_iff.1 X78.out).1).trans X78.out)
 have R79:=hide (RTq.below R78.out hb9)
 have k9:=N9.out.ct
 have l9:=X69.out.cells
 have s9:=hide (s1.out 5 _ w9 N9.out.bel R69.out)
 dsimp only at s9 l9
 clear hb9 N8 X58 R58 X68 R68 X78 R78 s8 k8 l8 s1
 go_wp2_with (go_at_call 12;refine Sto.out ?_)
 refine Sto.mk ?_
 refine s9.out.mono ?_
 rintro e wa ⟨rfl,hba⟩
 have NA:=hide (N9.out.below hba)
 have X7A:=hide ((hba.block _ (Array.getElem?_eq_some_iff.1 X79.out).1).trans X79.out)
 have R7A:=hide (RTq.below R79.out hba)
 have kA:=NA.out.cr
 have lA:wa.cell? ⟨w7.heap.size,0,none⟩=some (.int .i64 10)∧wa.cell? ⟨w7.heap.size,1,none⟩=some (.slice ba1 bb1 bc1)∧wa.cell? ⟨w7.heap.size,2,none⟩=some (.slice ba2 bb2 bc2):=by
  have:=X7A.out
  refine ⟨?_,?_,?_⟩ <;> (unfold World.cell?;rw [this];rfl)
 have sA:=hide (s3.out _ _ wa NA.out.bel R7A.out (NA.out.rt (gk + 18)))
 dsimp only at sA
 clear hba N9 X69 R69 X79 R79 s9 k9 l9 s3
 go_wp2_with (go_at_call 24;refine Sto.out ?_)
 refine Sto.mk ?_
 refine sA.out.mono ?_
 rintro e wb ⟨rfl,hbb⟩
 have BB:=hide (below_then NA.out.bel hbb)
 clear hbb NA X7A R7A kA lA sA
 go_wp2_with fail
 go_ret
 exact ⟨rfl,BB.out⟩
theorem names_any (hP:ParseOk) (nm:ByteArray) (w:World) (g:Gw w) (hs:nm.size≤maxLen):Calls Tryz.prog 8 #[.string nm] w fun e w'=>e=.returned (.bool true)∧Below w.heap.size w w':=by
 by_cases h:(16384:Int)<(nm.size:Int)
 ·exact names_long nm w h
 ·by_cases hc:nmC 140 nm=0
  ·exact names_yes hP 1005 (Nat.le_refl _) nm w g (by omega) hc
  ·exact names_no hP 1005 (Nat.le_refl _) nm w g (by omega) hc
end Lx
end Go.Proofs.YtcnfchblfcfimaaGreatDoor
