/- Merged by program: VrStep, VsMap, VwSize, PgBound, PsTypes, VtOver. -/
import Derived.Test.YtcnfchblfcfimaaGreatDoorZr29
import Derived.Test.YtcnfchblfcfimaaGreatDoorZr06
import Derived.Test.YtcnfchblfcfimaaGreatDoorZr04
import Derived.Test.YtcnfchblfcfimaaGreatDoorZr26
import Derived.Test.YtcnfchblfcfimaaGreatDoorZr10
set_option linter.unusedSimpArgs false
set_option linter.unusedVariables false
namespace Go.Proofs.YtcnfchblfcfimaaGreatDoor
namespace Lx
open Go.RowKit
structure SA (w:World) (B:Nat) (r:List Tk) (i:Nat) (t:Tk) (W:World):Prop where
 tq:TQ W B r
 gp:Gp W
 lo:15≤B
 lb:LB W w.heap.size B
 ex:Ex W (w.heap.size + 1) ze zs
 tb:Tb W i t
 fb:FB B w W
theorem SA.after {w W W1:World} {B i:Nat} {t:Tk} {r r':List Tk} (h:SA w B r i t W) (hB:B + 4≤w.heap.size) (hi:w.heap.size≤i) (k:FB B W W1) (hq:TQ W1 B r'):SA w B r' i t W1 :=
 ⟨hq,h.gp.fb k h.lo,h.lo,h.lb.fb k (by omega),h.ex.fb k (by omega),h.tb.fb k (by omega),h.fb.trans k⟩
theorem SA.below {w W W1:World} {B i:Nat} {t:Tk} {r:List Tk} (h:SA w B r i t W) (hB:B + 4≤w.heap.size) (hi:w.heap.size≤i) (k:Below W.heap.size W W1):SA w B r i t W1:=h.after hB hi (FB.of k) (h.tq.below k)
theorem SA.lq {w W:World} {B i:Nat} {t:Tk} {r:List Tk} (h:SA w B r i t W) (hk:Okl r):Lq W B r:=⟨h.tq,hk,h.gp,h.lo⟩
theorem PE.upp {n B:Nat} {w w':World} {R:Sum Int (ET (n + 1)×List Tk)} {x:ET n×List Tk} {q:Sl} (e:R=.inr (upE n x.1,x.2)) (hb:FB B w w') (hk:KE n w' x.1 q w.heap.size w'.heap.size) (ht:TQ w' B x.2):PE (n + 1) B w R (.returned (.agg (ecl (ehd n x.1) q))) w':=by
 rw [←ehd_up n x.1]
 exact PE.good (x:=(upE n x.1,x.2)) e hb hk.up ht
theorem ke_one {m s:Nat} {W:World} {x:ET m} {q:Sl} (op:Int) (h:KE m W x q s W.heap.size):KE (m + 1) (W.alloc (.cells (ecl (ehd m x) q) 33)) ((lf op,[x]):ET (m + 1)) ⟨.slice none 0 0,.slice (some ⟨W.heap.size,0,none⟩) 1 1,.slice none 0 0,.slice none 0 0⟩ s (W.heap.size + 1):=by
 have hs:=h.1
 refine ⟨by omega,by simp,fun W' h'=>⟨Or.inl ⟨rfl,rfl⟩,rd_vz W',Or.inr ⟨W.heap.size,0,1,none,rfl,Nat.le_refl _,by decide,fun _=>?_,fun i hi=>?_⟩⟩⟩
 ·have hb:=(h' W.heap.size (by omega) (by omega)).trans (show _=some (Obj.cells (ecl (ehd m x) q) 33 (0,0)) from Array.getElem?_push_size)
  exact ⟨rfl,(Array.getElem?_eq_some_iff.1 hb).1⟩
 ·have hb:=(h' W.heap.size (by omega) (by omega)).trans (show _=some (Obj.cells (ecl (ehd m x) q) 33 (0,0)) from Array.getElem?_push_size)
  have hi0:i=0:=by simp at hi;omega
  subst hi0
  refine ⟨q,?_,?_⟩
  ·have:=(show Ex W' W.heap.size (ehd m x) q from ⟨hb⟩).range
   simpa using this
  ·refine h.2.2 W' fun k a b=>(h' k a (by omega)).trans ?_
   exact Below.heap_alloc _ _ _ b
theorem ke_nil {m s:Nat} {W:World} (h:Eh) (hn:h.names=[]) (hv:∀ W',RD h.vn W' h.val (.slice none 0 0) (.slice none 0 0)) (hs:s≤W.heap.size):KE (m + 1) W ((h,[]):ET (m + 1)) zs s W.heap.size :=
 ⟨hs,Nat.le_refl _,fun W' _=>⟨Or.inl ⟨rfl,hn⟩,hv W',Or.inl ⟨rfl,rfl⟩⟩⟩
theorem vhd1 (v:VT 1):vhd 1 v=v.1:=rfl
theorem cn_rd {l:List Tk} {v:VT 1×List Tk} (h:cnT l=.inr v) (W:World):RD 1 W v.1 (.slice none 0 0) (.slice none 0 0):=by
 cases l with
 | nil=>cases h
 | cons t r =>
  simp only [cnT] at h
  repeat' split at h
  all_goals first|(cases h;exact ⟨Or.inl ⟨rfl,rfl⟩,Or.inl ⟨rfl,rfl⟩⟩)|cases h
set_option maxHeartbeats 4000000 in
set_option maxRecDepth 100000 in
theorem step_any {m f:Nat} {M:List Tk→Sum Int (ET m×List Tk)} (hP:ParseOk) (hM:MpOk m 26 M f) (hG:Gd M) {w:World} {B:Nat} {l:List Tk} (h:Lq w B l) (hl:l.length≤f + 1):Calls Tryz.prog 61 #[lv B] w fun e w'=>PE (m + 1) B w (stpT M l) e w':=by
 have hB4:=h.tq.sz
 obtain ⟨t,r,rfl⟩:=h.ok.cons
 have hl1:Hid (r.length≤f):=by show _≤_;simpa using hl
 have hok:Hid (ownT t≠[]→Okl r):=fun e=>h.ok.tail (own_w e)
 have hsh:Hid (∀ t' r',r=t' :: r'→Okl r→t'.s.length≤70000):=fun t' r' e k=>by subst e;exact k.short
 have H:=hide h
 have HM:=hide hM
 have HG:=hide hG
 have HPar:=hide hP
 have ZL:=hide (lb_new w B)
 have Z0:=hide (ze_new (w.alloc (.cells #[.func (.func 114) #[] #[.pointer (some ⟨B,0,none⟩)],.func (.func 115) #[] #[.pointer (some ⟨B,0,none⟩)]] 83)))
 rw [World.size_alloc] at Z0
 have hx:Hid (∀ w',Below w.heap.size w w'→Calls Tryz.prog 115 #[.pointer (some ⟨B,0,none⟩)] w' fun e w''=>e=.returned (tkV t)∧TQ w'' B r∧FB B w' w''):=fun w' hb=>take_any (H.out.tq.below hb)
 have ho:=hide (own_any t)
 unfold tkV at hx ho
 have hne:w.heap.size + 1≠B:=by omega
 have hne0:w.heap.size≠B:=by omega
 obtain ⟨R,hR⟩:∃ R,stpT M (t :: r)=R:=⟨_,rfl⟩
 have HR:=hide hR
 rw [hR]
 obtain ⟨S,hS⟩:∃ S,mkB (ownT t)=S:=⟨_,rfl⟩
 rw [hS] at ho
 clear hR h hl hM hG hP
 unfold lv
 go_enter Tryz.func61, Tryz.ntmps61
 go_wp2_with (go_at_call 115;refine Sto.out ?_)
 refine Sto.mk ((hx.out _ (below_al (below_al (Below.refl _ _)))).mono ?_)
 rintro e w3 ⟨rfl,hq3,hb3⟩
 have F3:=hide ((FB.of (below_al (below_al (Below.refl _ _)))).trans hb3)
 have hz3:=hb3.size
 simp only [World.size_alloc] at hz3
 have P3:Hid (SA w B r w3.heap.size t (w3.alloc (.cells #[.int .i64 t.w,.string (mkB t.s),.int .i64 t.p] 88))):=⟨hq3.al,(H.out.gp.fb F3.out H.out.lo).below (below_al (Below.refl _ _)),H.out.lo,(((ZL.out.below (below_al (Below.refl _ _))).fb hb3 hne0)).below (below_al (Below.refl _ _)),(Z0.out.fb hb3 hne).below (below_al (Below.refl _ _)),tb_new w3 t,F3.out.al⟩
 have hi3:w.heap.size≤w3.heap.size:=by omega
 clear hq3 hb3 F3 hx ZL Z0
 go_wp2_with (go_at_call 95;refine Sto.out ?_)
 refine Sto.mk ((ho.out _).mono ?_)
 rintro e w4 ⟨rfl,hb4⟩
 have S4:=hide (P3.out.below hB4 hi3 hb4)
 clear hb4 P3 ho
 have kL:=S4.out.lb.cells
 have hu:stpT M (t :: r)=(if ownT t=[40] then (match clT M [41] r with
   | .inl p=>.inl p
   | .inr x=>.inr (upE m x.1,x.2))
  else if ownT t=[91] then (match clT M [93] r with
   | .inl p=>.inl p
   | .inr x=>.inr ((lf 4,[x.1]),x.2))
  else if ownT t=[46] then gtT 2 r
  else if ownT t=[116,97,103] then gtT 5 r
  else if ownT t=[123] then brT M 3 r
  else if ownT t=[99,97,115,101] then (match wantL [123] r with
   | .inl p=>.inl p
   | .inr l=>brT M 6 l)
  else if ownT t=[99,111,110,115,116] then (match cnT r with
   | .inl p=>.inl p
   | .inr v=>.inr ((⟨7,nilB,[],1,v.1⟩,[]),v.2))
  else match plO (ownT t) with
   | some op=>.inr ((lf op,[]),r)
   | none=>.inl t.p):=rfl
 rw [HR.out] at hu
 by_cases n0:ownT t=[40]
 ·have hS':S=⟨#[40]⟩:=by rw [←hS,n0];rfl
  have OK:=hide (hok.out (by rw [n0];simp))
  rw [if_pos n0] at hu
  have HU:=hide hu
  subst hS'
  clear hS hu n0
  have CL:Hid (∀ W,Lq W B r→Calls Tryz.prog 116 #[lv B,.string ⟨#[41]⟩] W fun e w'=>PE m B W (clT M [41] r) e w'):=fun W q=>closed_any HM.out HG.out [41] q hl1.out
  unfold lv at CL
  go_wp2_with (go_at_call 116;refine Sto.out ?_)
  refine Sto.mk ?_
  refine (CL.out _ (S4.out.lq OK.out)).mono ?_
  rcases hc:clT M [41] r with p|x
  ·rintro e w5 ⟨hb5,rfl⟩
   have e2:Hid (R=.inl p):=by show _=_;rw [HU.out,hc]
   clear hc HU
   first|exact ⟨rfl,PE.bad e2.out (S4.out.fb.trans hb5)⟩|(go_wp2_with fail;exact ⟨rfl,PE.bad e2.out (S4.out.fb.trans hb5)⟩)
  rintro e w5 ⟨hb5,q,rfl,hk5,hq5⟩
  obtain ⟨a,mm,c,a',m',c',a2,m2,c2,a3,m3,c3,hqs⟩:=hk5.rd.shape
  subst hqs
  have K5:=hide hk5
  have hz4:=S4.out.fb.size
  have hz5:=hb5.size
  have hlt4:=S4.out.ex.lt
  have S5:=hide (S4.out.after hB4 hi3 hb5 hq5)
  clear hb5 hq5 hk5 kL
  have e2:Hid (R=.inr (upE m x.1,x.2)):=by show _=_;rw [HU.out,hc]
  clear hc HU
  have kz:=S5.out.ex.cells
  have kf:=S5.out.ex.frz
  have kl:=S5.out.ex.lt
  unfold ecl
  go_wp2_with fail
  refine bodyPost_ret (v:=.agg (ecl (ehd m x.1) ⟨.slice a mm c,.slice a' m' c',.slice a2 m2 c2,.slice a3 m3 c3⟩)) (by simp [results,Tryz.results61,go_sem,ecl,lf,zs,vz,vH,vhd,nilB, *]) rfl (PE.upp (x:=x) e2.out ?_ ?_ ?_)
  ·(iterate 13 (refine FB.set ?_ (by omega)))
   exact S5.out.fb
  ·refine KE.fin (s:=w4.heap.size) (e:=w5.heap.size) ?_ (by omega)
   (iterate 13 (refine KE.set ?_ (by omega)))
   exact K5.out
  ·(iterate 13 (refine TQ.set ?_ (by omega)))
   exact S5.out.tq
 rw [if_neg n0] at hu
 have m0:=tl_lit (m:=[40]) (fun q=>n0 (mkB_inj (hS.trans q)))
 by_cases n1:ownT t=[91]
 ·have hS':S=⟨#[91]⟩:=by rw [←hS,n1];rfl
  have OK:=hide (hok.out (by rw [n1];simp))
  rw [if_pos n1] at hu
  have HU:=hide hu
  subst hS'
  clear hS hu n1 n0
  have CL:Hid (∀ W,Lq W B r→Calls Tryz.prog 116 #[lv B,.string ⟨#[93]⟩] W fun e w'=>PE m B W (clT M [93] r) e w'):=fun W q=>closed_any HM.out HG.out [93] q hl1.out
  unfold lv at CL
  go_wp2_with (go_at_call 116;refine Sto.out ?_)
  refine Sto.mk ?_
  refine (CL.out _ (S4.out.lq OK.out)).mono ?_
  rcases hc:clT M [93] r with p|x
  ·rintro e w5 ⟨hb5,rfl⟩
   have e2:Hid (R=.inl p):=by show _=_;rw [HU.out,hc]
   clear hc HU
   first|exact ⟨rfl,PE.bad e2.out (S4.out.fb.trans hb5)⟩|(go_wp2_with fail;exact ⟨rfl,PE.bad e2.out (S4.out.fb.trans hb5)⟩)
  rintro e w5 ⟨hb5,q,rfl,hk5,hq5⟩
  obtain ⟨a,mm,c,a',m',c',a2,m2,c2,a3,m3,c3,hqs⟩:=hk5.rd.shape
  subst hqs
  have K5:=hide hk5
  have hz4:=S4.out.fb.size
  have hz5:=hb5.size
  have hlt4:=S4.out.ex.lt
  have S5:=hide (S4.out.after hB4 hi3 hb5 hq5)
  clear hb5 hq5 hk5 kL
  have e2:Hid (R=.inr ((lf 4,[x.1]),x.2)):=by show _=_;rw [HU.out,hc]
  clear hc HU
  have kz:=S5.out.ex.cells
  have kf:=S5.out.ex.frz
  have kl:=S5.out.ex.lt
  have key:Hid (∀ W:World,W.heap.size=w5.heap.size→KE m W x.1 ⟨.slice a mm c,.slice a' m' c',.slice a2 m2 c2,.slice a3 m3 c3⟩ w4.heap.size w5.heap.size→KE (m + 1) (W.alloc (.cells (ecl (ehd m x.1) ⟨.slice a mm c,.slice a' m' c',.slice a2 m2 c2,.slice a3 m3 c3⟩) 33)) ((lf 4,[x.1]):ET (m + 1)) ⟨.slice none 0 0,.slice (some ⟨w5.heap.size,0,none⟩) 1 1,.slice none 0 0,.slice none 0 0⟩ w.heap.size (W.alloc (.cells (ecl (ehd m x.1) ⟨.slice a mm c,.slice a' m' c',.slice a2 m2 c2,.slice a3 m3 c3⟩) 33)).heap.size):=fun W e k=>by
   rw [←e] at k ⊢
   exact KE.fin (ke_one 4 k) (by omega)
  unfold ecl
  go_wp2_with fail
  refine bodyPost_ret (v:=.agg (ecl (lf 4) ⟨.slice none 0 0,.slice (some ⟨w5.heap.size,0,none⟩) 1 1,.slice none 0 0,.slice none 0 0⟩)) (by simp [results,Tryz.results61,go_sem,ecl,lf,zs,vz,vH,vhd,nilB, *]) rfl (PE.good (n:=m + 1) (x:=((lf 4,[x.1]),x.2)) e2.out ?_ ?_ ?_)
  ·refine FB.al ?_
   (iterate 13 (refine FB.set ?_ (by omega)))
   exact S5.out.fb
  ·refine key.out _ (by simp) ?_
   (iterate 13 (refine KE.set ?_ (by omega)))
   exact K5.out
  ·refine TQ.al ?_
   (iterate 13 (refine TQ.set ?_ (by omega)))
   exact S5.out.tq
 rw [if_neg n1] at hu
 have m1:=tl_lit (m:=[91]) (fun q=>n1 (mkB_inj (hS.trans q)))
 by_cases n2:ownT t=[46]
 ·have hS':S=⟨#[46]⟩:=by rw [←hS,n2];rfl
  have OK:=hide (hok.out (by rw [n2];simp))
  rw [if_pos n2] at hu
  have HU:=hide hu
  subst hS'
  clear hS hu n2 n0 n1
  have CL:Hid (∀ W,Lq W B r→Calls Tryz.prog 117 #[lv B,.slice none 0 0] W fun e w'=>NP B W (nameL [] r) e w'):=fun W q=>nameL_any [] q (NL.nil W) (fun _ _ _ _ _ h=>by cases h)
  unfold lv at CL
  go_wp2_with (go_at_call 117;refine Sto.out ?_)
  refine Sto.mk ?_
  refine (CL.out _ (S4.out.lq OK.out)).mono ?_
  rcases hc:nameL [] r with p|x
  ·rintro e w5 ⟨hb5,rfl⟩
   have e2:Hid (R=.inl p):=by show _=_;rw [HU.out];unfold gtT;rw [hc]
   clear hc HU
   first|exact ⟨rfl,PE.bad e2.out (S4.out.fb.trans hb5)⟩|(go_wp2_with fail;exact ⟨rfl,PE.bad e2.out (S4.out.fb.trans hb5)⟩)
  rintro e w5 ⟨hb5,rfl,hq5⟩
  have e2:Hid (R=.inr ((⟨2,mkB x.1,[],1,vz⟩,[]),x.2)):=by show _=_;rw [HU.out];unfold gtT;rw [hc]
  have hz4:=S4.out.fb.size
  have hz5:=hb5.size
  have S5:=hide (S4.out.after hB4 hi3 hb5 hq5)
  clear hb5 hq5 kL hc HU
  have kz:=S5.out.ex.cells
  have kf:=S5.out.ex.frz
  have kl:=S5.out.ex.lt
  go_wp2_with fail
  refine bodyPost_ret (v:=.agg (ecl (⟨2,mkB x.1,[],1,vz⟩:Eh) zs)) (by simp [results,Tryz.results61,go_sem,ecl,lf,zs,vz,vH,vhd,nilB, *]) rfl (PE.good (n:=m + 1) (x:=((⟨2,mkB x.1,[],1,vz⟩,[]),x.2)) e2.out ?_ ?_ ?_)
  ·(iterate 13 (refine FB.set ?_ (by omega)))
   exact S5.out.fb
  ·exact ke_nil _ rfl rd_vz (by simp only [World.size_setCell];omega)
  ·(iterate 13 (refine TQ.set ?_ (by omega)))
   exact S5.out.tq
 rw [if_neg n2] at hu
 have m2:=tl_lit (m:=[46]) (fun q=>n2 (mkB_inj (hS.trans q)))
 by_cases n3:ownT t=[116,97,103]
 ·have hS':S=⟨#[116,97,103]⟩:=by rw [←hS,n3];rfl
  have OK:=hide (hok.out (by rw [n3];simp))
  rw [if_pos n3] at hu
  have HU:=hide hu
  subst hS'
  clear hS hu n3 n0 n1 n2
  have CL:Hid (∀ W,Lq W B r→Calls Tryz.prog 117 #[lv B,.slice none 0 0] W fun e w'=>NP B W (nameL [] r) e w'):=fun W q=>nameL_any [] q (NL.nil W) (fun _ _ _ _ _ h=>by cases h)
  unfold lv at CL
  go_wp2_with (go_at_call 117;refine Sto.out ?_)
  refine Sto.mk ?_
  refine (CL.out _ (S4.out.lq OK.out)).mono ?_
  rcases hc:nameL [] r with p|x
  ·rintro e w5 ⟨hb5,rfl⟩
   have e2:Hid (R=.inl p):=by show _=_;rw [HU.out];unfold gtT;rw [hc]
   clear hc HU
   first|exact ⟨rfl,PE.bad e2.out (S4.out.fb.trans hb5)⟩|(go_wp2_with fail;exact ⟨rfl,PE.bad e2.out (S4.out.fb.trans hb5)⟩)
  rintro e w5 ⟨hb5,rfl,hq5⟩
  have e2:Hid (R=.inr ((⟨5,mkB x.1,[],1,vz⟩,[]),x.2)):=by show _=_;rw [HU.out];unfold gtT;rw [hc]
  have hz4:=S4.out.fb.size
  have hz5:=hb5.size
  have S5:=hide (S4.out.after hB4 hi3 hb5 hq5)
  clear hb5 hq5 kL hc HU
  have kz:=S5.out.ex.cells
  have kf:=S5.out.ex.frz
  have kl:=S5.out.ex.lt
  go_wp2_with fail
  refine bodyPost_ret (v:=.agg (ecl (⟨5,mkB x.1,[],1,vz⟩:Eh) zs)) (by simp [results,Tryz.results61,go_sem,ecl,lf,zs,vz,vH,vhd,nilB, *]) rfl (PE.good (n:=m + 1) (x:=((⟨5,mkB x.1,[],1,vz⟩,[]),x.2)) e2.out ?_ ?_ ?_)
  ·(iterate 13 (refine FB.set ?_ (by omega)))
   exact S5.out.fb
  ·exact ke_nil _ rfl rd_vz (by simp only [World.size_setCell];omega)
  ·(iterate 13 (refine TQ.set ?_ (by omega)))
   exact S5.out.tq
 rw [if_neg n3] at hu
 have m3:=tl_lit (m:=[116,97,103]) (fun q=>n3 (mkB_inj (hS.trans q)))
 by_cases n4:ownT t=[123]
 ·have hS':S=⟨#[123]⟩:=by rw [←hS,n4];rfl
  have OK:=hide (hok.out (by rw [n4];simp))
  rw [if_pos n4] at hu
  have HU:=hide hu
  subst hS'
  clear hS hu n4 n0 n1 n2 n3
  have CL:Hid (∀ W,Lq W B r→Calls Tryz.prog 118 #[lv B,.int .i64 3] W fun e w'=>PE (m + 1) B W (brT M 3 r) e w'):=fun W q=>branches_any HM.out HG.out 3 q hl1.out
  unfold lv at CL
  go_wp2_with (go_at_call 118;refine Sto.out ?_)
  refine Sto.mk ?_
  refine (CL.out _ (S4.out.lq OK.out)).mono ?_
  rcases hc:brT M 3 r with p|x
  ·rintro e w5 ⟨hb5,rfl⟩
   have e2:Hid (R=.inl p):=by show _=_;rw [HU.out,hc]
   clear hc HU
   first|exact ⟨rfl,PE.bad e2.out (S4.out.fb.trans hb5)⟩|(go_wp2_with fail;exact ⟨rfl,PE.bad e2.out (S4.out.fb.trans hb5)⟩)
  rintro e w5 ⟨hb5,q,rfl,hk5,hq5⟩
  have e2:Hid (R=.inr x):=by show _=_;rw [HU.out,hc]
  obtain ⟨a,mm,c,a',m',c',a2,m2,c2,a3,m3,c3,hqs⟩:=hk5.rd.shape
  subst hqs
  have K5:=hide hk5
  have hz4:=S4.out.fb.size
  have hz5:=hb5.size
  have hlt4:=S4.out.ex.lt
  have S5:=hide (S4.out.after hB4 hi3 hb5 hq5)
  clear hb5 hq5 hk5 kL hc HU
  have kz:=S5.out.ex.cells
  have kf:=S5.out.ex.frz
  have kl:=S5.out.ex.lt
  unfold ecl
  go_wp2_with fail
  refine bodyPost_ret (v:=.agg (ecl (ehd (m + 1) x.1) ⟨.slice a mm c,.slice a' m' c',.slice a2 m2 c2,.slice a3 m3 c3⟩)) (by simp [results,Tryz.results61,go_sem,ecl,lf,zs,vz,vH,vhd,nilB, *]) rfl (PE.good (n:=m + 1) (x:=x) e2.out ?_ ?_ ?_)
  ·(iterate 13 (refine FB.set ?_ (by omega)))
   exact S5.out.fb
  ·refine KE.fin (s:=w4.heap.size) (e:=w5.heap.size) ?_ (by omega)
   (iterate 13 (refine KE.set ?_ (by omega)))
   exact K5.out
  ·(iterate 13 (refine TQ.set ?_ (by omega)))
   exact S5.out.tq
 rw [if_neg n4] at hu
 have m4:=tl_lit (m:=[123]) (fun q=>n4 (mkB_inj (hS.trans q)))
 by_cases n5:ownT t=[99,97,115,101]
 ·have hS':S=⟨#[99,97,115,101]⟩:=by rw [←hS,n5];rfl
  have OK:=hide (hok.out (by rw [n5];simp))
  rw [if_pos n5] at hu
  have HU:=hide hu
  subst hS'
  clear hS hu n5 n0 n1 n2 n3 n4
  have CW:Hid (∀ W,Lq W B r→Calls Tryz.prog 96 #[lv B,.string ⟨#[123]⟩] W fun e w'=>WP B W (wantL [123] r) e w'):=fun W q=>wantL_any [123] q
  unfold lv at CW
  go_wp2_with (go_at_call 96;refine Sto.out ?_)
  refine Sto.mk ?_
  refine (CW.out _ (S4.out.lq OK.out)).mono ?_
  rcases hwn:wantL [123] r with p|r2
  ·rintro e w5 ⟨hb5,rfl⟩
   have e2:Hid (R=.inl p):=by show _=_;rw [HU.out,hwn]
   clear hwn HU
   first|exact ⟨rfl,PE.bad e2.out (S4.out.fb.trans hb5)⟩|(go_wp2_with fail;exact ⟨rfl,PE.bad e2.out (S4.out.fb.trans hb5)⟩)
  rintro e w4' ⟨hb5,rfl,hq5⟩
  have N2:=hide (want_nx OK.out (by simp) hwn)
  have S4':=hide (S4.out.after hB4 hi3 hb5 hq5)
  clear hb5 hq5 kL
  have kL:=S4'.out.lb.cells
  have CL:Hid (∀ W,Lq W B r2→Calls Tryz.prog 118 #[lv B,.int .i64 6] W fun e w'=>PE (m + 1) B W (brT M 6 r2) e w'):=fun W q=>branches_any HM.out HG.out 6 q (by have:=N2.out.2;have:=hl1.out;omega)
  unfold lv at CL
  go_wp2_with (go_at_call 118;refine Sto.out ?_)
  refine Sto.mk ?_
  refine (CL.out _ (S4'.out.lq N2.out.1)).mono ?_
  rcases hc:brT M 6 r2 with p|x
  ·rintro e w5 ⟨hb5,rfl⟩
   have e2:Hid (R=.inl p):=by show _=_;rw [HU.out,hwn];exact hc
   clear hc HU hwn
   first|exact ⟨rfl,PE.bad e2.out (S4'.out.fb.trans hb5)⟩|(go_wp2_with fail;exact ⟨rfl,PE.bad e2.out (S4'.out.fb.trans hb5)⟩)
  rintro e w5 ⟨hb5,q,rfl,hk5,hq5⟩
  have e2:Hid (R=.inr x):=by show _=_;rw [HU.out,hwn];exact hc
  obtain ⟨a,mm,c,a',m',c',a2,m2,c2,a3,m3,c3,hqs⟩:=hk5.rd.shape
  subst hqs
  have K5:=hide hk5
  have hz4:=S4'.out.fb.size
  have hz5:=hb5.size
  have hlt4:=S4'.out.ex.lt
  have S5:=hide (S4'.out.after hB4 hi3 hb5 hq5)
  clear hb5 hq5 hk5 kL hc HU hwn
  have kz:=S5.out.ex.cells
  have kf:=S5.out.ex.frz
  have kl:=S5.out.ex.lt
  unfold ecl
  go_wp2_with fail
  refine bodyPost_ret (v:=.agg (ecl (ehd (m + 1) x.1) ⟨.slice a mm c,.slice a' m' c',.slice a2 m2 c2,.slice a3 m3 c3⟩)) (by simp [results,Tryz.results61,go_sem,ecl,lf,zs,vz,vH,vhd,nilB, *]) rfl (PE.good (n:=m + 1) (x:=x) e2.out ?_ ?_ ?_)
  ·(iterate 13 (refine FB.set ?_ (by omega)))
   exact S5.out.fb
  ·refine KE.fin (s:=w4'.heap.size) (e:=w5.heap.size) ?_ (by omega)
   (iterate 13 (refine KE.set ?_ (by omega)))
   exact K5.out
  ·(iterate 13 (refine TQ.set ?_ (by omega)))
   exact S5.out.tq
 rw [if_neg n5] at hu
 have m5:=tl_lit (m:=[99,97,115,101]) (fun q=>n5 (mkB_inj (hS.trans q)))
 by_cases n6:ownT t=[99,111,110,115,116]
 ·have hS':S=⟨#[99,111,110,115,116]⟩:=by rw [←hS,n6];rfl
  have OK:=hide (hok.out (by rw [n6];simp))
  rw [if_pos n6] at hu
  have HU:=hide hu
  subst hS'
  clear hS hu n6 n0 n1 n2 n3 n4 n5
  obtain ⟨t',r',hr'⟩:=OK.out.cons
  have CL:Hid (∀ W,Lq W B r→Calls Tryz.prog 119 #[lv B] W fun e w'=>CnP B W (cnT r) e w'):=fun W q=>by
   have hsh':=hsh.out t' r' hr' OK.out
   have q':=q.tq
   rw [hr'] at q' ⊢
   exact const_any HPar.out q' hsh'
  unfold lv at CL
  go_wp2_with (go_at_call 119;refine Sto.out ?_)
  refine Sto.mk ?_
  refine (CL.out _ (S4.out.lq OK.out)).mono ?_
  rcases hc:cnT r with p|v
  ·rintro e w5 ⟨hb5,rfl⟩
   have e2:Hid (R=.inl p):=by show _=_;rw [HU.out,hc]
   clear hc HU
   first|exact ⟨rfl,PE.bad e2.out (S4.out.fb.trans hb5)⟩|(go_wp2_with fail;exact ⟨rfl,PE.bad e2.out (S4.out.fb.trans hb5)⟩)
  rintro e w5 ⟨hb5,rfl,hq5⟩
  have e2:Hid (R=.inr ((⟨7,nilB,[],1,v.1⟩,[]),v.2)):=by show _=_;rw [HU.out,hc]
  have hrd:=hide (fun W=>cn_rd hc W)
  have hz4:=S4.out.fb.size
  have hz5:=hb5.size
  have S5:=hide (S4.out.after hB4 hi3 hb5 hq5)
  clear hb5 hq5 kL hc HU
  have kz:=S5.out.ex.cells
  have kf:=S5.out.ex.frz
  have kl:=S5.out.ex.lt
  unfold vcl vals
  go_wp2_with fail
  refine bodyPost_ret (v:=.agg (ecl (⟨7,nilB,[],1,v.1⟩:Eh) zs)) (by simp [results,Tryz.results61,go_sem,ecl,zs,vhd1,nilB, *]) rfl (PE.good (n:=m + 1) (x:=((⟨7,nilB,[],1,v.1⟩,[]),v.2)) e2.out ?_ ?_ ?_)
  ·(iterate 13 (refine FB.set ?_ (by omega)))
   exact S5.out.fb
  ·exact ke_nil _ rfl (fun W'=>hrd.out W') (by simp only [World.size_setCell];omega)
  ·(iterate 13 (refine TQ.set ?_ (by omega)))
   exact S5.out.tq
 rw [if_neg n6] at hu
 have m6:=tl_lit (m:=[99,111,110,115,116]) (fun q=>n6 (mkB_inj (hS.trans q)))
 have PL:Hid (∀ W,Gp W→Calls Tryz.prog 120 #[tkV t] W fun e w'=>PlP W (plO (ownT t)) t.p e w'):=fun W g=>plainStep_any t W g
 unfold tkV at PL
 have HU:=hide hu
 have kt:=Tb.cell2 S4.out.tb
 have hS2:=hide hS
 clear hu hS n0 n1 n2 n3 n4 n5 n6
 go_wp2_with (go_at_call 120;refine Sto.out ?_)
 refine Sto.mk ?_
 refine (PL.out _ S4.out.gp).mono ?_
 rcases hc:plO (ownT t) with _|op
 ·rintro e w5 ⟨hb5,rfl⟩
  have e2:Hid (R=.inl t.p):=by show _=_;rw [HU.out,hc]
  clear hc HU
  first|exact ⟨rfl,PE.bad e2.out (S4.out.fb.then hb5)⟩|(go_wp2_with fail;exact ⟨rfl,PE.bad e2.out (S4.out.fb.then hb5)⟩)
 rintro e w5 ⟨hb5,rfl⟩
 have e2:Hid (R=.inr ((lf op,[]),r)):=by show _=_;rw [HU.out,hc]
 have hz4:=S4.out.fb.size
 have hz5:=hb5.size
 have S5:=hide (S4.out.below hB4 hi3 hb5)
 clear hb5 kL hc HU kt
 have kz:=S5.out.ex.cells
 have kf:=S5.out.ex.frz
 have kl:=S5.out.ex.lt
 rw [show ecl (lf op) zs=#[.int .i64 op,.string ⟨#[]⟩,.slice none 0 0,.slice none 0 0,.int .i64 0,.bool false,.bool false,.string ⟨#[]⟩,.int .i64 0,.int .u64 0,.string ⟨#[]⟩,.slice none 0 0,.slice none 0 0] from rfl]
 go_wp2_with fail
 refine bodyPost_ret (v:=.agg (ecl (lf op) zs)) (by simp [results,Tryz.results61,go_sem,ecl,lf,zs,vz,vH,vhd,nilB, *]) rfl (PE.good (n:=m + 1) (x:=((lf op,[]),r)) e2.out ?_ ?_ ?_)
 ·(iterate 13 (refine FB.set ?_ (by omega)))
  exact S5.out.fb
 ·exact ke_nil _ rfl rd_vz (by simp only [World.size_setCell];omega)
 ·(iterate 13 (refine TQ.set ?_ (by omega)))
  exact S5.out.tq
end Lx
end Go.Proofs.YtcnfchblfcfimaaGreatDoor
namespace Go.Proofs.YtcnfchblfcfimaaGreatDoor
namespace Lx
open Go.RowKit
theorem E2.one {n L s0:Nat} {W:World} {x:ET n} {q:Sl} (h:KE n W x q s0 W.heap.size) (hL:L≤s0):E2 n L (W.alloc (.cells (ecl (ehd n x) q) 33)) (.slice none 0 0) (.slice (some ⟨W.heap.size,0,none⟩) 1 1) [] [x] (ecl (ehd n x) q).toList:=by
 have hs:=h.1
 refine ⟨World.ownsRow_nil _ _ _ _,⟨rfl,Or.inr ⟨W.heap.size,1,ecl (ehd n x) q,rfl,by omega,heap_alloc_new W _,Nat.le_refl _,by decide,rfl,rfl⟩⟩,fun j hj=>?_⟩
 have hj0:j=0:=by simp at hj;omega
 subst hj0
 refine ⟨q,s0,W.heap.size,h.al,hL,fun g hg=>?_,fun r u hr=>?_⟩
 ·rcases hg with hg|hg
  ·cases hg;exact Or.inr (Nat.le_refl _)
  ·cases hg
 ·simpa using hr
theorem E2.elt {n L:Nat} {W:World} {nv v:Value} {nms:List ByteArray} {l:List (ET n)} {us:List Value} (h:E2 n L W nv v nms l us) (j:Nat) (hj:j<l.length):∃ b c q s e,v=.slice (some ⟨b,0,none⟩) l.length c∧L≤b∧b<W.heap.size∧W.rangeAt b (j * 13) (ecl (ehd n l[j]) q).toList∧KE n W l[j] q s e∧L≤s:=by
 have ho:=h.row
 obtain ⟨q,s,e,k1,k2,_,k4⟩:=h.all j hj
 rcases id ho.2 with ⟨_,e0⟩|⟨g,cap,cur,e1,h2,h3,h4,h5,h6,h7⟩
 ·omega
 ·refine ⟨g,cap,q,s,e,e1,h2,(Array.getElem?_eq_some_iff.1 h3).1,fun r u hr=>?_,k1,k2⟩
  have hu:=k4 r u hr
  rw [←h7,List.getElem?_take] at hu
  unfold World.cell?
  rw [h3]
  split at hu
  ·simpa using hu
  ·cases hu
theorem range13 {W:World} {b o:Nat} {h:Eh} {q:Sl} (k:W.rangeAt b o (ecl h q).toList):W.cell? ⟨b,o,none⟩=some (.int .i64 h.op)∧W.cell? ⟨b,o + 1,none⟩=some (.string h.name)∧W.cell? ⟨b,o + 2,none⟩=some q.ns∧W.cell? ⟨b,o + 3,none⟩=some q.ls∧W.cell? ⟨b,o + 4,none⟩=some (.int .i64 (vhd h.vn h.val).kind)∧W.cell? ⟨b,o + 5,none⟩=some (.bool (vhd h.vn h.val).flag)∧W.cell? ⟨b,o + 6,none⟩=some (.bool (vhd h.vn h.val).neg)∧W.cell? ⟨b,o + 7,none⟩=some (.string (vhd h.vn h.val).dig)∧W.cell? ⟨b,o + 8,none⟩=some (.int .i64 (vhd h.vn h.val).exp)∧W.cell? ⟨b,o + 9,none⟩=some (.int .u64 (vhd h.vn h.val).bits)∧W.cell? ⟨b,o + 10,none⟩=some (.string (vhd h.vn h.val).text)∧W.cell? ⟨b,o + 11,none⟩=some q.vs∧W.cell? ⟨b,o + 12,none⟩=some q.vl :=
 ⟨k 0 _ rfl,k 1 _ rfl,k 2 _ rfl,k 3 _ rfl,k 4 _ rfl,k 5 _ rfl,k 6 _ rfl,k 7 _ rfl,k 8 _ rfl,k 9 _ rfl,k 10 _ rfl,k 11 _ rfl,k 12 _ rfl⟩
def fin2 {m:Nat}:Sum Int (List (ET m)×List Tk)→Sum Int (ET (m + 1)×List Tk)
 | .inl p=>.inl p
 | .inr y=>.inr (pipeT y.1,y.2)
theorem mpg_fin {m:Nat} {S:List Tk→Sum Int (ET m×List Tk)} {l:List Tk} {x:ET m×List Tk} (h:S l=.inr x):mpgT S l=fin2 (moreT S l.length [x.1] x.2):=by
 unfold mpgT
 rw [h]
 show (match moreT S l.length [x.1] x.2 with | .inl p=>_ | .inr y=>_)=_
 cases moreT S l.length [x.1] x.2 <;> rfl
structure MI (n B f:Nat) (S:List Tk→Sum Int (ET n×List Tk)) (w:World) (R:Sum Int (List (ET n)×List Tk)) (W:World) (v:Value) (acc:List (ET n)) (l:List Tk):Prop where
 fuel:∃ g,l.length≤g∧moreT S g acc l=R
 lq:Lq W B l
 lb:LB W w.heap.size B
 ex:Ex W (w.heap.size + 1) ze zs
 fb:FB B w W
 row:∃ us,E2 n (w.heap.size + 2) W (.slice none 0 0) v [] acc us
 few:acc.length + l.length≤100000∧l.length≤f∧1≤acc.length
theorem pipe_n {m:Nat} (l:List (ET m)) (h:l.length≠1):pipeT l=((lf 12,l):ET (m + 1)):=by
 match l,h with
 | [],_=>rfl
 | [_],h=>exact absurd rfl h
 | _ :: _ :: _,_=>rfl
set_option maxHeartbeats 4000000 in
set_option maxRecDepth 100000 in
theorem mapping_any {m f:Nat} {S:List Tk→Sum Int (ET m×List Tk)} (hS:MpOk m 61 S f) (hG:Gd S):MpOk (m + 1) 26 (mpgT S) f:=by
 intro w B l h hl
 have hB4:=h.tq.sz
 have hln:l.length≤100000:=by obtain ⟨a,c,_,_,_,_⟩:=h.tq;omega
 have H:=hide h
 have HS:=hide hS
 have HG:=hide hG
 have ZL:=hide (lb_new w B)
 have Z0:=hide (ze_new (w.alloc (.cells #[.func (.func 114) #[] #[.pointer (some ⟨B,0,none⟩)],.func (.func 115) #[] #[.pointer (some ⟨B,0,none⟩)]] 83)))
 rw [World.size_alloc] at Z0
 have hne:w.heap.size + 1≠B:=by omega
 have hne0:w.heap.size≠B:=by omega
 obtain ⟨R,hR⟩:∃ R,mpgT S l=R:=⟨_,rfl⟩
 rw [hR]
 have HR:=hide hR
 have hs1:Hid (∀ w',Below w.heap.size w w'→Calls Tryz.prog 61 #[lv B] w' fun e w''=>PE m B w' (S l) e w''):=fun w' hb=>hS w' B l (h.below hb) hl
 clear hR h hS hG
 unfold lv at hs1 ⊢
 go_enter Tryz.func26, Tryz.ntmps26
 go_wp2_with (go_at_call 61;refine Sto.out ?_)
 refine Sto.mk ?_
 refine (hs1.out _ (below_al (below_al (Below.refl _ _)))).mono ?_
 rcases hx:S l with p|x
 ·rintro e w3 ⟨hb3,rfl⟩
  have e2:Hid (R=.inl p):=by show _=_;rw [←HR.out];unfold mpgT;rw [hx]
  clear hx HR
  first|exact ⟨rfl,PE.bad e2.out ((FB.of (below_al (below_al (Below.refl _ _)))).trans hb3)⟩|(go_wp2_with fail;exact ⟨rfl,PE.bad e2.out ((FB.of (below_al (below_al (Below.refl _ _)))).trans hb3)⟩)
 rintro e w3 ⟨hb3,q,rfl,hk3,hq3⟩
 have N1:=hide (HG.out _ _ H.out.ok hx)
 obtain ⟨a,mm,c,a',m',c',a2,m2,c2,a3,m3,c3,hqs⟩:=hk3.rd.shape
 subst hqs
 have hz3:=hb3.size
 simp only [World.size_alloc] at hz3
 obtain ⟨R2,hR2⟩:∃ R2,moreT S l.length [x.1] x.2=R2:=⟨_,rfl⟩
 have HU:Hid (R=fin2 R2):=by show _=_;rw [←HR.out,←hR2];exact mpg_fin hx
 have I3:Hid (MI m B f S w R2 (w3.alloc (.cells (ecl (ehd m x.1) ⟨.slice a mm c,.slice a' m' c',.slice a2 m2 c2,.slice a3 m3 c3⟩) 33)) (.slice (some ⟨w3.heap.size,0,none⟩) 1 1) [x.1] x.2):=by
  have e1:=(H.out.below (below_al (o:=.cells #[.func (.func 114) #[] #[.pointer (some ⟨B,0,none⟩)],.func (.func 115) #[] #[.pointer (some ⟨B,0,none⟩)]] 83) (Below.refl _ _))).al.fb hb3 hq3 N1.out.1
  refine ⟨⟨l.length,Nat.le_of_lt N1.out.2,hR2⟩,e1.al,(((ZL.out.below (below_al (Below.refl _ _))).fb hb3 hne0)).below (below_al (Below.refl _ _)),(Z0.out.fb hb3 hne).below (below_al (Below.refl _ _)),((FB.of (below_al (below_al (Below.refl _ _)))).trans hb3).al,⟨_,E2.one (by simpa using hk3) (by omega)⟩,?_,?_,?_⟩
  ·have:=N1.out.2;simp;omega
  ·have:=N1.out.2;omega
  ·simp
 clear hx HR hR2 hk3 hb3 hq3 hs1 ZL Z0 H hln hl
 unfold ecl
 simp only [ecl] at I3
 go_wp2_with fail
 go_loopw [3] (fun v w'=>∃ acc l',Hid (MI m B f S w R2 w' v acc l')) (fun _ w'=>lenB w' B)
 case atStart=>exact ⟨[x.1],x.2,I3.out⟩
 case round =>
  obtain ⟨acc,l1,HI⟩:=hrel
  clear I3
  obtain ⟨⟨g,hg,hfu⟩,hlq,hlb,hex,hfb,⟨us,hE⟩,hfew1,hfew2,hfew3⟩:=HI.out
  have hBw:B<w.heap.size + 2:=by omega
  obtain ⟨_,_,a',c',_,e2⟩:=hE.shape
  obtain ⟨N,hN⟩:∃ N,acc.length=N:=⟨_,rfl⟩
  rw [hN] at e2 hfew1 hfew3
  subst e2
  have h1:0<l1.length:=by obtain ⟨t,r,rfl⟩:=hlq.ok.cons;simp
  obtain ⟨g,rfl⟩:∃ g',g=g' + 1:=⟨g - 1,by omega⟩
  have Hlen:=hide hlq.tq.lenB
  have hnx:=has_nx (m:=[59]) hlq.ok (by simp)
  have HH:Hid (∀ w',Lq w' B l1→Calls Tryz.prog 62 #[lv B,.string ⟨#[59]⟩] w' fun e w''=>e=.returned (.bool (hasL [59] l1).1)∧TQ w'' B (hasL [59] l1).2∧FB B w' w''):=fun w' hq=>hasL_any [59] hq
  unfold lv at HH
  have LQ:=hide hlq
  have FBw:=hide hfb
  have HE:=hide hE
  have LBw:=hide hlb
  have EXw:=hide hex
  have kL:=hlb.cells
  have HN:=hide hN
  have HF2:=hide hfew2
  have hN200:N≤200000:=by omega
  have HF1:=hide hfew1
  have FU:=hide hfu
  have hG1:=hide hg
  clear HI hfu hlq hfb hE hlb hex hfew2 hg hN hfew1
  go_wp2_with (go_at_call 62;refine Sto.out ?_)
  refine Sto.mk ?_
  refine (HH.out _ LQ.out).mono ?_
  rintro e w4 ⟨rfl,hq4,hb4⟩
  rcases hh:(hasL [59] l1).1 with _|_
  ·-- the end of the steps
   have e3:Hid (R2=.inr (acc,(hasL [59] l1).2)):=by show _=_;rw [←FU.out];unfold moreT;rw [hh];rfl
   have e4:Hid (R=.inr (pipeT acc,(hasL [59] l1).2)):=by show _=_;rw [HU.out,e3.out];rfl
   have E4:=hide (HE.out.fb hb4 hBw)
   have X4:=hide (EXw.out.fb hb4 hne)
   have F4:=hide (FBw.out.trans hb4)
   have HQ4:=hide hq4
   clear FU hh hnx hb4 hq4 LQ HE EXw FBw LBw kL HH HU e3
   by_cases hN1:N=1
   ·obtain ⟨y,hy⟩:∃ y,acc=[y]:=by
     match acc,(HN.out.trans hN1) with
     | [y],_=>exact ⟨y,rfl⟩
    have bN:((N:Int)==1)=true:=by simp;omega
    have b0:(0:Int)<(N:Int):=by omega
    have HN1:=hide hN1
    clear hN1
    subst hy
    obtain ⟨b,c2,q,s,e,he,hLb,hbl,hrg,hke,hLs⟩:=E4.out.elt 0 (by simp)
    have he':=Value.slice.inj he
    obtain ⟨rfl,_,rfl⟩:=he'
    obtain ⟨a5,m5,c5,a6,m6,c6,a7,m7,c7,a8,m8,c8,rfl⟩:=hke.rd.shape
    have hre:=range13 hrg
    simp only [List.getElem_cons_zero,Nat.zero_mul,Nat.zero_add] at hre hke
    have K4:=hide hke
    have kz:=X4.out.cells
    have kf:=X4.out.frz
    have kl:=X4.out.lt
    have hz4:=F4.out.size
    have HBB:=hide (And.intro hLs (And.intro hke.1 hke.2.1))
    clear hLb hLs
    clear he hrg hke HN hN200 HF1 HF2 hfew3 Hlen hG1 h1
    go_wp2_with fail
    refine bodyPost_ret (v:=.agg (ecl (ehd m y) ⟨.slice a5 m5 c5,.slice a6 m6 c6,.slice a7 m7 c7,.slice a8 m8 c8⟩)) (by simp [results,Tryz.results26,go_sem,ecl, *]) rfl (PE.upp (x:=(y,(hasL [59] l1).2)) e4.out ?_ ?_ ?_)
    ·(iterate 13 (refine FB.set ?_ (by omega)))
     exact F4.out
    ·refine KE.fin (s:=s) (e:=e) ?_ (by have:=HBB.out;omega)
     obtain ⟨hLs,_,_⟩:=HBB.out
     (iterate 13 (refine KE.set ?_ (by omega)))
     exact K4.out
    ·(iterate 13 (refine TQ.set ?_ (by omega)))
     exact HQ4.out
   ·have e5:Hid (R=.inr ((lf 12,acc),(hasL [59] l1).2)):=by show _=_;rw [e4.out,pipe_n acc (by rw [HN.out];exact hN1)]
    have bN:((N:Int)==1)=false:=by simp;omega
    have bN2:¬ ((N:Int)=1):=by omega
    have kz:=X4.out.cells
    have kf:=X4.out.frz
    have kl:=X4.out.lt
    have hz4:=F4.out.size
    have HNn:=hide hN1
    clear hN200 HF1 HF2 hfew3 Hlen hG1 h1 e4 hN1
    go_wp2_with fail
    refine bodyPost_ret (v:=.agg (ecl (lf 12) ⟨.slice none 0 0,.slice a' N c',.slice none 0 0,.slice none 0 0⟩)) (by simp [results,Tryz.results26,go_sem,ecl,lf,vz,vH,vhd,nilB, *]) rfl (PE.good (n:=m + 1) (x:=((lf 12,acc),(hasL [59] l1).2)) e5.out ?_ ?_ ?_)
    ·(iterate 13 (refine FB.set ?_ (by omega)))
     exact F4.out
    ·refine KE.fin (s:=w.heap.size + 2) (e:=w4.heap.size) ?_ (by omega)
     (iterate 13 (refine KE.set ?_ (by omega)))
     exact ke_row E4.out 12 (Nat.le_refl _) (by omega)
    ·(iterate 13 (refine TQ.set ?_ (by omega)))
     exact HQ4.out
  ·have N2:=hide (hnx.1 hh).1
   have Q4:=hide (LQ.out.fb hb4 hq4 N2.out)
   have N2l:=hide (hnx.1 hh).2
   have E4:=hide (HE.out.fb hb4 hBw)
   have L4:=hide (LBw.out.fb hb4 hne0)
   have X4:=hide (EXw.out.fb hb4 hne)
   have F4:=hide (FBw.out.trans hb4)
   clear hnx hb4 hq4 LQ HE LBw EXw FBw kL HH
   obtain ⟨l2,hl2⟩:∃ l2,(hasL [59] l1).2=l2:=⟨_,rfl⟩
   rw [hl2] at N2 Q4 N2l
   have kL:=L4.out.cells
   have HI:Hid (∀ w',Lq w' B l2→Calls Tryz.prog 61 #[lv B] w' fun e w''=>PE m B w' (S l2) e w''):=fun w' q=>HS.out w' B l2 q (by have:=N2l.out;have:=HF2.out;omega)
   unfold lv at HI
   go_wp2_with (go_at_call 61;refine Sto.out ?_)
   refine Sto.mk ?_
   refine (HI.out _ Q4.out).mono ?_
   rcases hx:S l2 with p|x2
   ·rintro e w5 ⟨hb5,rfl⟩
    have e2:Hid (R=.inl p):=by
     show _=_
     rw [HU.out,←FU.out]
     unfold moreT
     rw [if_pos hh,hl2,hx]
     rfl
    clear FU hx hh hl2
    first|exact ⟨rfl,PE.bad e2.out (F4.out.trans hb5)⟩|(go_wp2_with fail;exact ⟨rfl,PE.bad e2.out (F4.out.trans hb5)⟩)
   rintro e w5 ⟨hb5,q5,rfl,hk5,hq5⟩
   have N3:=hide (HG.out _ _ N2.out hx)
   have e2:Hid (moreT S g (acc++[x2.1]) x2.2=R2):=by
    show _=_
    rw [←FU.out]
    conv=>rhs;unfold moreT
    rw [if_pos hh,hl2,hx]
   have K5:=hide hk5
   obtain ⟨b1,b2,b3,b4,b5,b6,b7,b8,b9,b10,b11,b12,hqs⟩:=hk5.rd.shape
   subst hqs
   have Q5:=hide (Q4.out.fb hb5 hq5 N3.out.1)
   have hr5:=hide (E4.out.lt)
   have E5:=hide (E4.out.fb hb5 hBw)
   have L5:=hide (L4.out.fb hb5 hne0)
   have X5:=hide (X4.out.fb hb5 hne)
   have F5:=hide (F4.out.trans hb5)
   have kz5:=hb5.size
   have kz4:=F4.out.size
   have kz6:=X4.out.lt
   clear hb5 hq5 hk5 Q4 E4 L4 X4 F4 kL HI FU hx hh hl2
   unfold ecl
   go_wp2_with (at_builtin;refine Sto.out ?_)
   refine Sto.mk ?_
   refine app_e13 rfl (.tmp 9) (.tmp 12) rfl (w.heap.size + 2) (.slice a' N c') N us rfl (row_len E5.out.al.row HN.out) w5.heap.size 1 rfl (ehd m x2.1) ⟨.slice b1 b2 b3,.slice b4 b5 b6,.slice b7 b8 b9,.slice b10 b11 b12⟩ rfl rfl rfl rfl ((ex_new _ _ _).range) hN200 (by rw [World.size_alloc];have:=F5.out.size;omega) ?_
   intro av2 cv2 w6 o6 g6 at6
   have hr6:=E5.out.lt
   have E6:=hide (E5.out.al.push HN.out K5.out.al (by omega) (fun g hg=>(hr5.out g hg).2) g6.out o6.out at6.out)
   have Q6:=hide (Q5.out.al.grown g6.out (fun g hg=>by have:=(hr6 g (Or.inl hg)).1;omega))
   have L6:=hide ((L5.out.below (below_al (Below.refl _ _))).grown g6.out (fun g hg=>by have:=(hr6 g (Or.inl hg)).1;omega))
   have X6:Hid (Ex w6 (w.heap.size + 1) ze zs):=⟨(g6.out.block _ (by have:=X5.out.lt;rw [World.size_alloc];omega) (fun e=>by have:=(hr6 _ (Or.inl e.symm)).1;omega)).trans (X5.out.below (below_al (Below.refl _ _))).at_⟩
   have F6:=hide (F5.out.al.grown g6.out (fun g hg=>by have:=(hr6 g (Or.inl hg)).1;omega))
   clear o6 g6 at6 hr6 hr5 E5 Q5 L5 X5 F5 K5
   go_wp2_with fail
   have z2:=N2l.out
   have z3:=N3.out.2
   have zg:=hG1.out
   have zf1:=HF1.out
   have zf2:=HF2.out
   refine ⟨⟨acc++[x2.1],x2.2,⟨⟨g,by omega,e2.out⟩,Q6.out,L6.out,X6.out,F6.out,⟨_,E6.out⟩,?_,?_,?_⟩⟩,?_⟩
   ·rw [List.length_append,List.length_singleton,HN.out];omega
   ·omega
   ·rw [List.length_append,List.length_singleton];omega
   ·rw [Hlen.out,Q6.out.tq.lenB];omega
theorem step_ok (hP:ParseOk):∀ f,MpOk (dp f) 61 (stp f) f
 | 0=>by
  intro w B l h hl
  obtain ⟨t,r,rfl⟩:=h.ok.cons
  simp at hl
 | f + 1=>by
  intro w B l h hl
  exact step_any (m:=dp f + 1) (M:=mpgT (stp f)) hP (mapping_any (step_ok hP f) (stp_nx f)) (mpg_nx (stp_nx f)) h hl
theorem mapping_ok (hP:ParseOk) (f:Nat):MpOk (dp f + 1) 26 (mpgT (stp f)) f:=mapping_any (step_ok hP f) (stp_nx f)
end Lx
end Go.Proofs.YtcnfchblfcfimaaGreatDoor
namespace Go.Proofs.YtcnfchblfcfimaaGreatDoor
namespace Lx
open Go.RowKit
def edep:(n:Nat)→ET n→Nat
 | 0,_=>0
 | n + 1,x=>1 + mxl (x.2.map (edep n))
def esiz:(n:Nat)→ET n→Nat
 | 0,_=>0
 | n + 1,x=>1 + suml (x.2.map (esiz n))
theorem edep_le:∀ (n:Nat) (x:ET n),edep n x≤esiz n x
 | 0,x=>Empty.elim x
 | n + 1,x=>by
  simp only [edep,esiz]
  have:=mxl_le (l:=x.2.map (edep n)) (m:=x.2.map (esiz n)) (fun i h1 h2=>by simp only [List.getElem_map];exact edep_le n _) (by simp)
  omega
theorem esiz_mem {n:Nat} {x:ET (n + 1)} {i:Nat} (h:i<x.2.length):esiz n x.2[i]<esiz (n + 1) x:=by
 have:=suml_mem (l:=x.2.map (esiz n)) (i:=i) (by simpa using h)
 simp only [List.getElem_map] at this
 simp only [esiz];omega
set_option maxHeartbeats 1000000 in
set_option maxRecDepth 100000 in
theorem edepth_any:∀ (n:Nat) (x:ET n) (q:Sl) (w:World),RE n w x q→esiz n x≤200000 →
  Calls Tryz.prog 40 #[.agg (ecl (ehd n x) q)] w fun e w'=>e=.returned (.int .i64 (edep n x))∧Below w.heap.size w w':=by
 intro n
 induction n with
 | zero=>intro x;exact Empty.elim x
 | succ n ih =>
  intro x q w hr hs
  obtain ⟨h,l⟩:=x
  obtain ⟨al,cl,hle,hc1,hc2⟩:=hr.tl.len
  obtain ⟨x1,y1,z1,x2,y2,z2,x3,y3,z3,x4,y4,z4,hqs⟩:=hr.shape
  subst hqs
  obtain ⟨rfl,rfl,rfl⟩:=Value.slice.inj hle
  clear hle
  have hr:=hide hr
  have ih':=hide ih
  have hs':=hide hs
  clear ih hs
  show Calls _ _ #[.agg #[.int .i64 h.op,.string h.name,.slice x1 y1 z1,.slice x2 l.length z2,.int .i64 (vhd h.vn h.val).kind,.bool (vhd h.vn h.val).flag,.bool (vhd h.vn h.val).neg,.string (vhd h.vn h.val).dig,.int .i64 (vhd h.vn h.val).exp,.int .u64 (vhd h.vn h.val).bits,.string (vhd h.vn h.val).text,.slice x3 y3 z3,.slice x4 y4 z4]] _ _
  go_enter Tryz.func40, Tryz.ntmps40
  go_wp2_with fail
  go_loopw [3,9] (fun m i w'=>∃ k:Nat,m=.int .i64 (mxl ((l.map (edep n)).take k):Nat)∧i=.int .i64 k∧k≤l.length∧Hid (Below w.heap.size w w')) (fun _ i _=>l.length - (intOf i).toNat)
  case atStart=>exact ⟨0,rfl,rfl,Nat.zero_le _,below_al (Below.refl _ _)⟩
  case round =>
   obtain ⟨k,rfl,rfl,hk,hb⟩:=hrel
   have ml:maxLen=9223372036854775807:=rfl
   have hk63:(k:Int)≤9223372036854775807:=by omega
   by_cases hkl:k<l.length
   ·obtain ⟨b,o,c,he,hbl,hlc,hcm,q',hrg,hrd⟩:=hr.out.tl.at k hkl
    have he':=Value.slice.inj he
    obtain ⟨rfl,_,rfl⟩:=he'
    clear he
    have hki:(k:Int)<(l.length:Int):=by omega
    have hk63:(k:Int)<9223372036854775807:=by omega
    have hrg2:=rangeAt_below hrg hb.out hbl
    obtain ⟨u1,v1,w1,u2,v2,w2,u3,v3,w3,u4,v4,w4,hqs⟩:=hrd.shape
    subst hqs
    have c0:=range13 hrg2
    clear hrg2
    have hrd':=hide (hrd.below hb.out)
    clear hrg hrd
    have hsk:esiz n l[k]≤200000:=by have h1:=esiz_mem (x:=(h,l)) hkl;have h2:=hs'.out;simp only at h1;omega
    obtain ⟨D,hD⟩:∃ D,edep n l[k]=D:=⟨_,rfl⟩
    have hmx:=mxl_take (l.map (edep n)) k (by simpa using hkl)
    rw [List.getElem_map,hD] at hmx
    have hcall:=hide (fun o=>ih'.out l[k] ⟨.slice u1 v1 w1,.slice u2 v2 w2,.slice u3 v3 w3,.slice u4 v4 w4⟩ (wr.alloc o) (hrd'.out.below (below_al (Below.refl _ _))) hsk)
    rw [hD] at hcall
    obtain ⟨M,hM⟩:∃ M,mxl ((l.map (edep n)).take k)=M:=⟨_,rfl⟩
    rw [hM] at hmx ⊢
    have hmx':=hide hmx
    have hD':=hide hD
    have hM':=hide hM
    clear hD hM hsk hmx
    rcases Nat.lt_trichotomy M D with hlt|hlt|hlt
    ·have hdi:(M:Int)<(D:Int):=by omega
     have hdj:¬ ((D:Int)<(M:Int)):=by omega
     go_wp2_with (go_at_call 40;refine (hcall.out _).mono ?_;rintro e w1 ⟨rfl,hb1⟩)
     exact ⟨⟨k + 1,by rw [hmx'.out];congr 2;omega,by go_num,by omega,below_then (below_al hb.out) hb1⟩,by simp [intOf];omega⟩
    ·subst hlt
     have hdi:¬ ((M:Int)<(M:Int)):=by omega
     go_wp2_with (go_at_call 40;refine (hcall.out _).mono ?_;rintro e w1 ⟨rfl,hb1⟩)
     exact ⟨⟨k + 1,by rw [hmx'.out];congr 2;omega,by go_num,by omega,below_then (below_al hb.out) hb1⟩,by simp [intOf];omega⟩
    ·have hdi:(D:Int)<(M:Int):=by omega
     have hdj:¬ ((M:Int)<(D:Int)):=by omega
     go_wp2_with (go_at_call 40;refine (hcall.out _).mono ?_;rintro e w1 ⟨rfl,hb1⟩)
     exact ⟨⟨k + 1,by rw [hmx'.out];congr 2;omega,by go_num,by omega,below_then (below_al hb.out) hb1⟩,by simp [intOf];omega⟩
   ·have hki:¬ ((k:Int)<(l.length:Int)):=by omega
    have hkl2:k=l.length:=by omega
    have hD:edep (n + 1) (h,l)=1 + mxl ((l.map (edep n)).take k):=by
     simp only [edep]
     rw [List.take_of_length_le (by simp;omega)]
    have hsz:1 + mxl ((l.map (edep n)).take k)≤200000:=by
     rw [←hD];exact Nat.le_trans (edep_le _ _) hs'.out
    obtain ⟨M,hM⟩:∃ M,mxl ((l.map (edep n)).take k)=M:=⟨_,rfl⟩
    rw [hM] at hsz hD ⊢
    have hD':=hide hD
    clear hD hM hkl2
    have hM2:(M:Int)<200000:=by omega
    clear hsz
    go_wp2_with fail
    go_ret
    exact ⟨by rw [hD'.out];exact ret_int (by omega),hb.out⟩
set_option maxHeartbeats 1000000 in
set_option maxRecDepth 100000 in
theorem esize_any:∀ (n:Nat) (x:ET n) (q:Sl) (w:World),RE n w x q→esiz n x≤200000 →
  Calls Tryz.prog 41 #[.agg (ecl (ehd n x) q)] w fun e w'=>e=.returned (.int .i64 (esiz n x))∧Below w.heap.size w w':=by
 intro n
 induction n with
 | zero=>intro x;exact Empty.elim x
 | succ n ih =>
  intro x q w hr hs
  obtain ⟨h,l⟩:=x
  obtain ⟨al,cl,hle,hc1,hc2⟩:=hr.tl.len
  obtain ⟨x1,y1,z1,x2,y2,z2,x3,y3,z3,x4,y4,z4,hqs⟩:=hr.shape
  subst hqs
  obtain ⟨rfl,rfl,rfl⟩:=Value.slice.inj hle
  clear hle
  have hr:=hide hr
  have ih':=hide ih
  have hs':=hide hs
  clear ih hs
  show Calls _ _ #[.agg #[.int .i64 h.op,.string h.name,.slice x1 y1 z1,.slice x2 l.length z2,.int .i64 (vhd h.vn h.val).kind,.bool (vhd h.vn h.val).flag,.bool (vhd h.vn h.val).neg,.string (vhd h.vn h.val).dig,.int .i64 (vhd h.vn h.val).exp,.int .u64 (vhd h.vn h.val).bits,.string (vhd h.vn h.val).text,.slice x3 y3 z3,.slice x4 y4 z4]] _ _
  go_enter Tryz.func41, Tryz.ntmps41
  go_wp2_with fail
  go_loopw [3,9] (fun m i w'=>∃ k:Nat,m=.int .i64 (1 + suml ((l.map (esiz n)).take k):Nat)∧i=.int .i64 k∧k≤l.length∧Hid (Below w.heap.size w w')) (fun _ i _=>l.length - (intOf i).toNat)
  case atStart=>exact ⟨0,rfl,rfl,Nat.zero_le _,below_al (Below.refl _ _)⟩
  case round =>
   obtain ⟨k,rfl,rfl,hk,hb⟩:=hrel
   have ml:maxLen=9223372036854775807:=rfl
   have hk63:(k:Int)≤9223372036854775807:=by omega
   obtain ⟨M,hM⟩:∃ M,1 + suml ((l.map (esiz n)).take k)=M:=⟨_,rfl⟩
   have hMle:M≤200000:=by
    have h1:=suml_take_le (l.map (esiz n)) k
    have h2:=hs'.out
    simp only [esiz] at h2
    omega
   by_cases hkl:k<l.length
   ·obtain ⟨b,o,c,he,hbl,hlc,hcm,q',hrg,hrd⟩:=hr.out.tl.at k hkl
    have he':=Value.slice.inj he
    obtain ⟨rfl,_,rfl⟩:=he'
    clear he
    have hki:(k:Int)<(l.length:Int):=by omega
    have hk63:(k:Int)<9223372036854775807:=by omega
    have hrg2:=rangeAt_below hrg hb.out hbl
    obtain ⟨u1,v1,w1,u2,v2,w2,u3,v3,w3,u4,v4,w4,hqs⟩:=hrd.shape
    subst hqs
    have c0:=range13 hrg2
    clear hrg2
    have hrd':=hide (hrd.below hb.out)
    clear hrg hrd
    have hsk:esiz n l[k]≤200000:=by have h1:=esiz_mem (x:=(h,l)) hkl;have h2:=hs'.out;simp only at h1;omega
    obtain ⟨D,hD⟩:∃ D,esiz n l[k]=D:=⟨_,rfl⟩
    have hmx:=suml_take (l.map (esiz n)) k (by simpa using hkl)
    rw [List.getElem_map,hD] at hmx
    have hcall:=hide (fun o=>ih'.out l[k] ⟨.slice u1 v1 w1,.slice u2 v2 w2,.slice u3 v3 w3,.slice u4 v4 w4⟩ (wr.alloc o) (hrd'.out.below (below_al (Below.refl _ _))) hsk)
    rw [hD] at hcall hsk
    have hmx:1 + suml ((l.map (esiz n)).take (k + 1))=M + D:=by omega
    rw [hM]
    have hmx':=hide hmx
    have hD1:(D:Int)≤200000:=by omega
    have hM1:(M:Int)≤200000:=by omega
    clear hD hM hsk hmx hMle
    go_wp2_with (go_at_call 41;refine (hcall.out _).mono ?_;rintro e w1 ⟨rfl,hb1⟩)
    exact ⟨⟨k + 1,by rw [hmx'.out];first|rfl|(congr 1),by go_num,by omega,below_then (below_al hb.out) hb1⟩,by simp [intOf];omega⟩
   ·have hki:¬ ((k:Int)<(l.length:Int)):=by omega
    have hD:esiz (n + 1) (h,l)=M:=by
     rw [←hM]
     simp only [esiz]
     rw [List.take_of_length_le (by simp;omega)]
    rw [hM]
    have hD':=hide hD
    clear hD hM hMle
    go_wp2_with fail
    go_ret
    exact ⟨by rw [hD'.out];rfl,hb.out⟩
end Lx
end Go.Proofs.YtcnfchblfcfimaaGreatDoor
namespace Go.Proofs.YtcnfchblfcfimaaGreatDoor
namespace Lx
def GH (h:Eh):Prop:=h.name.size≤281474976710656∧h.names.length≤100000∧(∀ s∈h.names,s.size≤281474976710656)∧Sz h.vn h.val∧siz h.vn h.val≤200000
def GE:(n:Nat)→ET n→Prop
 | 0,_=>True
 | n + 1,x=>GH x.1∧x.2.length≤100000∧∀ y∈x.2,GE n y
theorem esiz_pos:∀ (n:Nat) (x:ET n),1≤esiz n x
 | 0,x=>Empty.elim x
 | n + 1,x=>by simp only [esiz];omega
theorem esiz_up:∀ (n:Nat) (x:ET n),esiz (n + 1) (upE n x)=esiz n x
 | 0,x=>Empty.elim x
 | n + 1,x=>by
  have e:(esiz (n + 1)) ∘ (upE n)=esiz n:=funext (esiz_up n)
  show 1 + suml ((x.2.map (upE n)).map (esiz (n + 1)))=1 + suml (x.2.map (esiz n))
  rw [List.map_map,e]
theorem GE.up:∀ {n:Nat} {x:ET n},GE n x→GE (n + 1) (upE n x)
 | 0,x,_=>Empty.elim x
 | n + 1,x,h=>by
  refine ⟨h.1,by show (x.2.map (upE n)).length≤_;rw [List.length_map];exact h.2.1,fun y hy=>?_⟩
  obtain ⟨z,hz,rfl⟩:=List.mem_map.1 (show y∈x.2.map (upE n) from hy)
  exact (h.2.2 z hz).up
theorem suml_len {α:Type} (f:α→Nat) (hf:∀ x,1≤f x):∀ l:List α,l.length≤suml (l.map f)
 | []=>Nat.le_refl _
 | a :: l=>by
  have:=suml_len f hf l
  have:=hf a
  simp only [List.map_cons,suml,List.length_cons];omega
def Kd {m:Nat} (S:List Tk→Sum Int (ET m×List Tk)):Prop:=∀ l x,Okl l→l.length≤100000→S l=.inr x→GE m x.1∧esiz m x.1 + x.2.length≤l.length
theorem vh_z (k:Int) (fl neg:Bool) (dig:ByteArray) (ex:Int) (tx:ByteArray) (h1:tx.size≤281474976710656) (h2:dig.size≤281474976710656):Sz 1 (vH k fl neg dig ex tx)∧siz 1 (vH k fl neg dig ex tx)≤200000:=by
 refine ⟨⟨h1,h2,Nat.zero_le _,fun s hs=>?_,fun y hy=>?_⟩,by show 1 + 0≤200000;omega⟩
 ·exact absurd hs (by simp [vH])
 ·exact absurd hy (by simp [vH])
theorem nil_z:nilB.size≤281474976710656:=by decide
theorem gh_lf (op:Int):GH (lf op):=by
 obtain ⟨h1,h2⟩:=vh_z 0 false false nilB 0 nilB nil_z nil_z
 exact ⟨nil_z,Nat.zero_le _,fun s hs=>absurd hs (by simp [lf]),h1,h2⟩
theorem mkB_size (l:List UInt8):(mkB l).size=l.length:=by simp [mkB,ByteArray.size]
theorem parseF_dg (l:List UInt8):(parseF l).2.1.size≤281474976710656:=by
 by_cases h:(parseF l).2.2.2=0
 ·obtain ⟨⟨b,d,x,E⟩,hp⟩:∃ p,parseF l=p:=⟨_,rfl⟩
  rw [hp] at h ⊢
  simp only at h
  subst h
  have:=(isN_len (parseF_isN hp)).1
  show d.size≤_
  omega
 ·rw [parseF_size h];show (ByteArray.size ⟨#[]⟩)≤_;decide
theorem cn_z {l:List Tk} {v:VT 1×List Tk} (h:Okl l) (e:cnT l=.inr v):Sz 1 v.1∧siz 1 v.1≤200000:=by
 obtain ⟨t,r,rfl⟩:=h.cons
 have hs:(mkB t.s).size≤281474976710656:=by rw [mkB_size];have:=h.short;omega
 simp only [cnT] at e
 repeat' split at e
 all_goals first|(cases e;exact vh_z _ _ _ _ _ _ (by first|exact hs|exact nil_z) (by first|exact nil_z|exact parseF_dg _))|cases e
theorem more_kd {m:Nat} {S:List Tk→Sum Int (ET m×List Tk)} (hS:Gd S) (hK:Kd S):∀ (g:Nat) (acc:List (ET m)) (l:List Tk) (y:List (ET m)×List Tk),Okl l→l.length≤100000→(∀ x∈acc,GE m x)→moreT S g acc l=.inr y→(∀ x∈y.1,GE m x)∧acc.length≤y.1.length∧suml (y.1.map (esiz m)) + (y.1.length - acc.length) + y.2.length≤suml (acc.map (esiz m)) + l.length
 | 0,_,_,_,_,_,_,e=>by cases e
 | g + 1,acc,l,y,h,hl,ha,e=>by
  have hn:=has_nx (m:=[59]) h (by simp)
  unfold moreT at e
  split at e
  ·rename_i k
   have n1:=hn.1 k
   split at e
   ·cases e
   ·rename_i x ex
    have n2:=hS _ _ n1.1 ex
    have hl1:(hasL [59] l).2.length≤100000:=by have:=n1.2;omega
    obtain ⟨g1,g2⟩:=hK _ _ n1.1 hl1 ex
    obtain ⟨q1,q2,q3⟩:=more_kd hS hK g (acc++[x.1]) _ _ n2.1 (by have:=n2.2;omega) (fun z hz=>by
     rcases List.mem_append.1 hz with h|h
     ·exact ha z h
     ·rw [List.mem_singleton.1 h];exact g1) e
    refine ⟨q1,by simp at q2;omega,?_⟩
    simp only [List.map_append,List.map_cons,List.map_nil,suml_app,suml,List.length_append,List.length_cons,List.length_nil] at q2 q3
    have:=n1.2
    omega
  ·rename_i k
   cases e
   have k':(hasL [59] l).1=false:=by simpa using k
   rw [hn.2 k']
   exact ⟨ha,Nat.le_refl _,by simp⟩
theorem pipe_kd {m:Nat} (l:List (ET m)) (h0:1≤l.length) (hl:l.length≤100000) (h:∀ x∈l,GE m x):GE (m + 1) (pipeT l)∧esiz (m + 1) (pipeT l)≤suml (l.map (esiz m)) + (l.length - 1):=by
 match l,h0 with
 | [y],_=>exact ⟨(h y (by simp)).up,by rw [show pipeT [y]=upE m y from rfl,esiz_up];simp [suml]⟩
 | a :: b :: l,_=>exact ⟨⟨gh_lf 12,hl,h⟩,by show 1 + suml ((a :: b :: l).map (esiz m))≤_;simp only [List.length_cons];omega⟩
theorem mpg_kd {m:Nat} {S:List Tk→Sum Int (ET m×List Tk)} (hS:Gd S) (hK:Kd S):Kd (mpgT S):=by
 intro l x h hl e
 unfold mpgT at e
 split at e
 ·cases e
 ·rename_i y ey
  have n1:=hS _ _ h ey
  obtain ⟨g1,g2⟩:=hK _ _ h hl ey
  split at e
  ·cases e
  ·rename_i z ez
   cases e
   obtain ⟨q1,q2,q3⟩:=more_kd hS hK _ _ _ _ n1.1 (by have:=n1.2;omega) (fun z hz=>by rw [List.mem_singleton.1 hz];exact g1) ez
   simp only [List.map_cons,List.map_nil,suml,List.length_cons,List.length_nil] at q2 q3
   have hzl:z.1.length≤100000:=by
    have:=suml_len (esiz m) (esiz_pos m) z.1
    omega
   obtain ⟨p1,p2⟩:=pipe_kd z.1 (by omega) hzl q1
   exact ⟨p1,by simp only;omega⟩
theorem nm_kd {m0:Nat} {m:List UInt8} (hm:m≠[]) {I:List Tk→Sum Int (ET m0×List Tk)} (hI:Gd I) (hK:Kd I):∀ (g:Nat) (ns:List (List UInt8)) (xs:List (ET m0)) (l:List Tk) (y:List (List UInt8)×List (ET m0)×List Tk),Okl l→l.length≤100000→(∀ x∈xs,GE m0 x)→(∀ s∈ns,s.length≤70000)→nmT m I g ns xs l=.inr y→(∀ x∈y.2.1,GE m0 x)∧(∀ s∈y.1,s.length≤70000)∧y.1.length + y.2.2.length≤ns.length + l.length∧y.2.1.length + y.2.2.length≤xs.length + l.length∧suml (y.2.1.map (esiz m0)) + y.2.2.length + 1≤suml (xs.map (esiz m0)) + l.length
 | 0,_,_,_,_,_,_,_,_,e=>by cases e
 | g + 1,ns,xs,l,y,h,hl,hx,hs,e=>by
  unfold nmT at e
  split at e
  ·cases e
  ·rename_i s es
   have n1:=name_nx h es
   have hsl:s.1.length≤70000:=by
    obtain ⟨t,r,rfl⟩:=h.cons
    simp only [nameL,nameT] at es
    split at es
    ·cases es;exact h.short
    ·cases es
   split at e
   ·cases e
   ·rename_i l2 e2
    have n2:=want_nx n1.1 hm e2
    split at e
    ·cases e
    ·rename_i x ex
     have n3:=hI _ _ n2.1 ex
     obtain ⟨g1,g2⟩:=hK _ _ n2.1 (by have:=n1.2;have:=n2.2;omega) ex
     have hn:=has_nx (m:=[125]) n3.1 (by simp)
     have hxs:∀ z∈xs++[x.1],GE m0 z:=fun z hz=>by
      rcases List.mem_append.1 hz with h|h
      ·exact hx z h
      ·rw [List.mem_singleton.1 h];exact g1
     have hns:∀ z∈ns++[s.1],z.length≤70000:=fun z hz=>by
      rcases List.mem_append.1 hz with h|h
      ·exact hs z h
      ·rw [List.mem_singleton.1 h];exact hsl
     have a1:=n1.2
     have a2:=n2.2
     have a3:=n3.2
     split at e
     ·rename_i k
      have a4:=(hn.1 k).2
      cases e
      refine ⟨hxs,hns,?_,?_,?_⟩
      ·simp only [List.length_append,List.length_cons,List.length_nil];omega
      ·simp only [List.length_append,List.length_cons,List.length_nil];omega
      ·simp only [List.map_append,List.map_cons,List.map_nil,suml_app,suml];omega
     ·rename_i k
      have k':(hasL [125] x.2).1=false:=by simpa using k
      rw [hn.2 k'] at e
      split at e
      ·cases e
      ·rename_i l5 e5
       have n5:=want_nx n3.1 (by simp) e5
       have a5:=n5.2
       obtain ⟨q1,q2,q3,q4,q5⟩:=nm_kd hm hI hK g _ _ _ _ n5.1 (by omega) hxs hns e
       refine ⟨q1,q2,?_,?_,?_⟩
       ·simp only [List.length_append,List.length_cons,List.length_nil] at q3;omega
       ·simp only [List.length_append,List.length_cons,List.length_nil] at q4;omega
       ·simp only [List.map_append,List.map_cons,List.map_nil,suml_app,suml] at q5;omega
theorem br_kd {m:Nat} {M:List Tk→Sum Int (ET m×List Tk)} (hM:Gd M) (hK:Kd M) (op:Int):∀ l x,Okl l→l.length≤100000→brT M op l=.inr x→GE (m + 1) x.1∧esiz (m + 1) x.1 + x.2.length≤l.length + 1:=by
 intro l x h hl e
 unfold brT at e
 split at e
 ·cases e
 ·rename_i y ey
  cases e
  have hn:=has_nx (m:=[125]) h (by simp)
  obtain ⟨z1,z2⟩:=vh_z 0 false false nilB 0 nilB nil_z nil_z
  unfold namedT at ey
  split at ey
  ·rename_i k
   have a:=(hn.1 k).2
   cases ey
   exact ⟨⟨⟨nil_z,Nat.zero_le _,fun s hs=>absurd hs (by simp),z1,z2⟩,Nat.zero_le _,fun y hy=>absurd hy (by simp)⟩,by show 1 + 0 + (hasL [125] l).2.length≤_;omega⟩
  ·rename_i k
   have k':(hasL [125] l).1=false:=by simpa using k
   rw [hn.2 k'] at ey
   obtain ⟨q1,q2,q3,q4,q5⟩:=nm_kd (by simp) hM hK _ _ _ _ _ h hl (fun z hz=>absurd hz (by simp)) (fun z hz=>absurd hz (by simp)) ey
   simp only [List.map_nil,suml,List.length_nil] at q3 q4 q5
   refine ⟨⟨⟨nil_z,?_,fun s hs=>?_,z1,z2⟩,?_,q1⟩,?_⟩
   ·show (y.1.map mkB).length≤_
    rw [List.length_map];omega
   ·obtain ⟨z,hz,rfl⟩:=List.mem_map.1 (show s∈y.1.map mkB from hs)
    rw [mkB_size]
    have:=q2 z hz
    omega
   ·show y.2.1.length≤_;omega
   ·show 1 + suml (y.2.1.map (esiz m)) + y.2.2.length≤_;omega
theorem gt_kd {m:Nat} (op:Int):∀ l x,Okl l→gtT (m:=m) op l=.inr x→GE (m + 1) x.1∧esiz (m + 1) x.1 + x.2.length≤l.length:=by
 intro l x h e
 obtain ⟨z1,z2⟩:=vh_z 0 false false nilB 0 nilB nil_z nil_z
 unfold gtT at e
 split at e
 ·cases e
 ·rename_i s es
  cases e
  have n1:=(name_nx h es).2
  have hsl:s.1.length≤70000:=by
   obtain ⟨t,r,rfl⟩:=h.cons
   simp only [nameL,nameT] at es
   split at es
   ·cases es;exact h.short
   ·cases es
  exact ⟨⟨⟨by show (mkB s.1).size≤_;rw [mkB_size];omega,Nat.zero_le _,fun s hs=>absurd hs (by simp),z1,z2⟩,Nat.zero_le _,fun y hy=>absurd hy (by simp)⟩,by show 1 + 0 + s.2.length≤_;omega⟩
theorem cl_kd {m:Nat} {M:List Tk→Sum Int (ET m×List Tk)} (hM:Gd M) (hK:Kd M) {k:List UInt8} (hk:k≠[]):∀ l x,Okl l→l.length≤100000→clT M k l=.inr x→GE m x.1∧esiz m x.1 + x.2.length + 1≤l.length:=by
 intro l x h hl e
 unfold clT at e
 split at e
 ·cases e
 ·rename_i y ey
  have n1:=hM _ _ h ey
  obtain ⟨g1,g2⟩:=hK _ _ h hl ey
  split at e
  ·cases e
  ·rename_i l' e'
   cases e
   have:=(want_nx n1.1 hk e').2
   exact ⟨g1,by simp only;omega⟩
theorem stpT_kd {m:Nat} {M:List Tk→Sum Int (ET m×List Tk)} (hM:Gd M) (hK:Kd M):Kd (stpT M):=by
 intro l x h hl e
 obtain ⟨t,r,rfl⟩:=h.cons
 have hw:¬ t.w=0:=by
  intro h0
  simp [stpT,h0,ownT,plO] at e
 have hr:=h.tail hw
 have hl':r.length≤100000:=by simp at hl;omega
 simp only [stpT] at e
 simp only [List.length_cons]
 split at e
 ·split at e
  ·cases e
  ·rename_i y ey
   cases e
   obtain ⟨g1,g2⟩:=cl_kd hM hK (by simp) _ _ hr hl' ey
   exact ⟨g1.up,by simp only [esiz_up];omega⟩
 ·split at e
  ·split at e
   ·cases e
   ·rename_i y ey
    cases e
    obtain ⟨g1,g2⟩:=cl_kd hM hK (by simp) _ _ hr hl' ey
    exact ⟨⟨gh_lf 4,by simp,fun z hz=>by rw [List.mem_singleton.1 hz];exact g1⟩,by show 1 + (esiz m y.1 + 0) + y.2.length≤_;omega⟩
  ·split at e
   ·obtain ⟨g1,g2⟩:=gt_kd 2 _ _ hr e
    exact ⟨g1,by omega⟩
   ·split at e
    ·obtain ⟨g1,g2⟩:=gt_kd 5 _ _ hr e
     exact ⟨g1,by omega⟩
    ·split at e
     ·obtain ⟨g1,g2⟩:=br_kd hM hK 3 _ _ hr hl' e
      exact ⟨g1,by omega⟩
     ·split at e
      ·split at e
       ·cases e
       ·rename_i l1 e1
        have n1:=want_nx hr (by simp) e1
        have:=n1.2
        obtain ⟨g1,g2⟩:=br_kd hM hK 6 _ _ n1.1 (by omega) e
        exact ⟨g1,by omega⟩
      ·split at e
       ·split at e
        ·cases e
        ·rename_i v ev
         cases e
         obtain ⟨z1,z2⟩:=cn_z hr ev
         have:=(cn_nx _ _ hr ev).2
         exact ⟨⟨⟨nil_z,Nat.zero_le _,fun s hs=>absurd hs (by simp),z1,z2⟩,Nat.zero_le _,fun y hy=>absurd hy (by simp)⟩,by show 1 + 0 + v.2.length≤_;omega⟩
       ·split at e
        ·rename_i op _
         cases e
         exact ⟨⟨gh_lf op,Nat.zero_le _,fun y hy=>absurd hy (by simp)⟩,by show 1 + 0 + r.length≤_;omega⟩
        ·cases e
theorem stp_kd:∀ f,Kd (stp f)
 | 0=>fun _ _ _ _ e=>by cases e
 | f + 1=>stpT_kd (mpg_nx (stp_nx f)) (mpg_kd (stp_nx f) (stp_kd f))
end Lx
end Go.Proofs.YtcnfchblfcfimaaGreatDoor
namespace Go.Proofs.YtcnfchblfcfimaaGreatDoor
namespace Lx
def ptO (o:List UInt8):Option Int:=if o=[97,110,121] then some 1 else if o=[110,117,108,108] then some 2 else if o=[98,111,111,108] then some 3 else if o=[110,117,109] then some 4 else if o=[105,110,116] then some 5 else if o=[102,108,111,97,116] then some 6 else if o=[116,101,120,116] then some 7 else if o=[98,121,116,101,115] then some 8 else none
def fdT {m:Nat} (M:List Tk→Sum Int (TT m×List Tk)) (k:Int) (l:List Tk):Sum Int (TT (m + 1)×List Tk):=match wantL [123] l with
 | .inl p=>.inl p
 | .inr l1=>match namedT [58] M l1 with
  | .inl p=>.inl p
  | .inr y=>.inr ((⟨k,y.1.map mkB⟩,y.2.1),y.2.2)
def ltT {m:Nat} (M:List Tk→Sum Int (TT m×List Tk)) (l:List Tk):Sum Int (TT (m + 1)×List Tk):=match wantL [40] l with
 | .inl p=>.inl p
 | .inr l1=>match M l1 with
  | .inl p=>.inl p
  | .inr x=>match wantL [41] x.2 with
   | .inl p=>.inl p
   | .inr l3=>.inr ((⟨9,[]⟩,[x.1]),l3)
def tyT {m:Nat} (M:List Tk→Sum Int (TT m×List Tk)):List Tk→Sum Int (TT (m + 1)×List Tk)
 | []=>.inl 0
 | t :: r =>
  if ownT t=[108,105,115,116] then ltT M r
  else if ownT t=[114,101,99,111,114,100] then fdT M 10 r
  else if ownT t=[117,110,105,111,110] then fdT M 11 r
  else match ptO (ownT t) with
   | some k=>.inr ((⟨k,[]⟩,[]),r)
   | none=>.inl t.p
def tyf:(f:Nat)→List Tk→Sum Int (TT f×List Tk)
 | 0,_=>.inl 0
 | f + 1,l=>tyT (tyf f) l
theorem fd_nx {m:Nat} {M:List Tk→Sum Int (TT m×List Tk)} (hM:Gd M) (k:Int):Gd (fdT M k):=by
 intro l x h e
 unfold fdT at e
 split at e
 ·cases e
 ·rename_i l1 e1
  have n1:=want_nx h (by simp) e1
  split at e
  ·cases e
  ·rename_i y ey
   cases e
   exact n1.trans (named_nx (by simp) hM n1.1 ey)
theorem lt_nx {m:Nat} {M:List Tk→Sum Int (TT m×List Tk)} (hM:Gd M):Gd (ltT M):=by
 intro l x h e
 unfold ltT at e
 split at e
 ·cases e
 ·rename_i l1 e1
  have n1:=want_nx h (by simp) e1
  split at e
  ·cases e
  ·rename_i y ey
   have n2:=hM _ _ n1.1 ey
   split at e
   ·cases e
   ·rename_i l3 e3
    cases e
    exact (n1.trans n2).trans (want_nx n2.1 (by simp) e3)
theorem tyT_nx {m:Nat} {M:List Tk→Sum Int (TT m×List Tk)} (hM:Gd M):Gd (tyT M):=by
 intro l x h e
 obtain ⟨t,r,rfl⟩:=h.cons
 have hw:¬ t.w=0:=by
  intro h0
  simp [tyT,h0,ownT,ptO] at e
 have hr:=h.tail hw
 simp only [tyT] at e
 split at e
 ·exact (lt_nx hM _ _ hr e).from
 ·split at e
  ·exact (fd_nx hM 10 _ _ hr e).from
  ·split at e
   ·exact (fd_nx hM 11 _ _ hr e).from
   ·split at e
    ·cases e
     exact ⟨hr,by simp⟩
    ·cases e
theorem tyf_nx:∀ f,Gd (tyf f)
 | 0=>fun _ _ _ e=>by cases e
 | f + 1=>tyT_nx (tyf_nx f)
def GT:(n:Nat)→TT n→Prop
 | 0,_=>True
 | n + 1,x=>x.1.names.length≤100000∧(∀ s∈x.1.names,s.size≤281474976710656)∧x.2.length≤100000∧∀ y∈x.2,GT n y
theorem tsiz_pos:∀ (n:Nat) (x:TT n),1≤tsiz n x
 | 0,x=>Empty.elim x
 | n + 1,x=>by simp only [tsiz];omega
def Ld {m:Nat} (S:List Tk→Sum Int (TT m×List Tk)):Prop:=∀ l x,Okl l→l.length≤100000→S l=.inr x→GT m x.1∧tsiz m x.1 + x.2.length≤l.length
theorem nt_ld {m0:Nat} {m:List UInt8} (hm:m≠[]) {I:List Tk→Sum Int (TT m0×List Tk)} (hI:Gd I) (hK:Ld I):∀ (g:Nat) (ns:List (List UInt8)) (xs:List (TT m0)) (l:List Tk) (y:List (List UInt8)×List (TT m0)×List Tk),Okl l→l.length≤100000→(∀ x∈xs,GT m0 x)→(∀ s∈ns,s.length≤70000)→nmT m I g ns xs l=.inr y→(∀ x∈y.2.1,GT m0 x)∧(∀ s∈y.1,s.length≤70000)∧y.1.length + y.2.2.length≤ns.length + l.length∧y.2.1.length + y.2.2.length≤xs.length + l.length∧suml (y.2.1.map (tsiz m0)) + y.2.2.length + 1≤suml (xs.map (tsiz m0)) + l.length
 | 0,_,_,_,_,_,_,_,_,e=>by cases e
 | g + 1,ns,xs,l,y,h,hl,hx,hs,e=>by
  unfold nmT at e
  split at e
  ·cases e
  ·rename_i s es
   have n1:=name_nx h es
   have hsl:s.1.length≤70000:=by
    obtain ⟨t,r,rfl⟩:=h.cons
    simp only [nameL,nameT] at es
    split at es
    ·cases es;exact h.short
    ·cases es
   split at e
   ·cases e
   ·rename_i l2 e2
    have n2:=want_nx n1.1 hm e2
    split at e
    ·cases e
    ·rename_i x ex
     have n3:=hI _ _ n2.1 ex
     obtain ⟨g1,g2⟩:=hK _ _ n2.1 (by have:=n1.2;have:=n2.2;omega) ex
     have hn:=has_nx (m:=[125]) n3.1 (by simp)
     have hxs:∀ z∈xs++[x.1],GT m0 z:=fun z hz=>by
      rcases List.mem_append.1 hz with h|h
      ·exact hx z h
      ·rw [List.mem_singleton.1 h];exact g1
     have hns:∀ z∈ns++[s.1],z.length≤70000:=fun z hz=>by
      rcases List.mem_append.1 hz with h|h
      ·exact hs z h
      ·rw [List.mem_singleton.1 h];exact hsl
     have a1:=n1.2
     have a2:=n2.2
     have a3:=n3.2
     split at e
     ·rename_i k
      have a4:=(hn.1 k).2
      cases e
      refine ⟨hxs,hns,?_,?_,?_⟩
      ·simp only [List.length_append,List.length_cons,List.length_nil];omega
      ·simp only [List.length_append,List.length_cons,List.length_nil];omega
      ·simp only [List.map_append,List.map_cons,List.map_nil,suml_app,suml];omega
     ·rename_i k
      have k':(hasL [125] x.2).1=false:=by simpa using k
      rw [hn.2 k'] at e
      split at e
      ·cases e
      ·rename_i l5 e5
       have n5:=want_nx n3.1 (by simp) e5
       have a5:=n5.2
       obtain ⟨q1,q2,q3,q4,q5⟩:=nt_ld hm hI hK g _ _ _ _ n5.1 (by omega) hxs hns e
       refine ⟨q1,q2,?_,?_,?_⟩
       ·simp only [List.length_append,List.length_cons,List.length_nil] at q3;omega
       ·simp only [List.length_append,List.length_cons,List.length_nil] at q4;omega
       ·simp only [List.map_append,List.map_cons,List.map_nil,suml_app,suml] at q5;omega
theorem fd_ld {m:Nat} {M:List Tk→Sum Int (TT m×List Tk)} (hM:Gd M) (hK:Ld M) (k:Int):Ld (fdT M k):=by
 intro l x h hl e
 unfold fdT at e
 split at e
 ·cases e
 ·rename_i l1 e1
  have n1:=want_nx h (by simp) e1
  have a1:=n1.2
  split at e
  ·cases e
  ·rename_i y ey
   cases e
   have hn:=has_nx (m:=[125]) n1.1 (by simp)
   unfold namedT at ey
   split at ey
   ·rename_i k
    have a:=(hn.1 k).2
    cases ey
    exact ⟨⟨Nat.zero_le _,fun s hs=>absurd hs (by simp),Nat.zero_le _,fun y hy=>absurd hy (by simp)⟩,by show 1 + 0 + (hasL [125] l1).2.length≤_;omega⟩
   ·rename_i k
    have k':(hasL [125] l1).1=false:=by simpa using k
    rw [hn.2 k'] at ey
    obtain ⟨q1,q2,q3,q4,q5⟩:=nt_ld (by simp) hM hK _ _ _ _ _ n1.1 (by omega) (fun z hz=>absurd hz (by simp)) (fun z hz=>absurd hz (by simp)) ey
    simp only [List.map_nil,suml,List.length_nil] at q3 q4 q5
    refine ⟨⟨?_,fun s hs=>?_,?_,q1⟩,?_⟩
    ·show (y.1.map mkB).length≤_
     rw [List.length_map];omega
    ·obtain ⟨z,hz,rfl⟩:=List.mem_map.1 (show s∈y.1.map mkB from hs)
     rw [mkB_size]
     have:=q2 z hz
     omega
    ·show y.2.1.length≤_;omega
    ·show 1 + suml (y.2.1.map (tsiz m)) + y.2.2.length≤_;omega
theorem lt_ld {m:Nat} {M:List Tk→Sum Int (TT m×List Tk)} (hM:Gd M) (hK:Ld M):Ld (ltT M):=by
 intro l x h hl e
 unfold ltT at e
 split at e
 ·cases e
 ·rename_i l1 e1
  have n1:=want_nx h (by simp) e1
  have a1:=n1.2
  split at e
  ·cases e
  ·rename_i y ey
   have n2:=hM _ _ n1.1 ey
   obtain ⟨g1,g2⟩:=hK _ _ n1.1 (by omega) ey
   split at e
   ·cases e
   ·rename_i l3 e3
    cases e
    have a3:=(want_nx n2.1 (by simp) e3).2
    exact ⟨⟨Nat.zero_le _,fun s hs=>absurd hs (by simp),by simp,fun z hz=>by rw [List.mem_singleton.1 hz];exact g1⟩,by show 1 + (tsiz m y.1 + 0) + l3.length≤_;omega⟩
theorem tyT_ld {m:Nat} {M:List Tk→Sum Int (TT m×List Tk)} (hM:Gd M) (hK:Ld M):Ld (tyT M):=by
 intro l x h hl e
 obtain ⟨t,r,rfl⟩:=h.cons
 have hw:¬ t.w=0:=by
  intro h0
  simp [tyT,h0,ownT,ptO] at e
 have hr:=h.tail hw
 have hl':r.length≤100000:=by simp at hl;omega
 simp only [tyT] at e
 simp only [List.length_cons]
 split at e
 ·obtain ⟨g1,g2⟩:=lt_ld hM hK _ _ hr hl' e
  exact ⟨g1,by omega⟩
 ·split at e
  ·obtain ⟨g1,g2⟩:=fd_ld hM hK 10 _ _ hr hl' e
   exact ⟨g1,by omega⟩
  ·split at e
   ·obtain ⟨g1,g2⟩:=fd_ld hM hK 11 _ _ hr hl' e
    exact ⟨g1,by omega⟩
   ·split at e
    ·rename_i k _
     cases e
     exact ⟨⟨Nat.zero_le _,fun s hs=>absurd hs (by simp),Nat.zero_le _,fun y hy=>absurd hy (by simp)⟩,by show 1 + 0 + r.length≤_;omega⟩
    ·cases e
theorem tyf_ld:∀ f,Ld (tyf f)
 | 0=>fun _ _ _ _ e=>by cases e
 | f + 1=>tyT_ld (tyf_nx f) (tyf_ld f)
end Lx
end Go.Proofs.YtcnfchblfcfimaaGreatDoor
namespace Go.Proofs.YtcnfchblfcfimaaGreatDoor
namespace Lx
open Go.RowKit
section
variable {w : World} {ops : Array Oper} {rest : List Oper} {o : Oper} {a : Act} {Q : Exit → Act → World → Prop}
theorem app_tk2 (hgd:o.guard=none) (s x:Operand) (ho:o.op=.call {callee:=.builtin .append,args:=#[s,x],argTypes:=#[59,59]})
  (B:Nat) (v:Value) (l:List Tk) (hs:a.eval s=v) (hown:OT w B v l) (ad:Addr) (c:Nat) (hx:a.eval x=.slice (some ad) 1 c) (t:Tk)
  (hnews:∀ j u,(tcs [t])[j]?=some u→w.cell? (ad.add j)=some u) (hk:l.length≤100000) (hB:B≤w.heap.size)
  (h:∀ g c' w',Hid (OT w' B (.slice (some ⟨g,0,none⟩) (l.length + 1) c') (l++[t]))→Hid (w.grownBy w' v.ownBlock)→Hid (some g=v.ownBlock∨g=w.heap.size)→wpList Tryz.prog ops Q rest (a.put o.dst (.slice (some ⟨g,0,none⟩) (l.length + 1) c')) w'):wpList Tryz.prog ops Q (o :: rest) a w:=by
 obtain ⟨i0,hi,hz0,hz1,hz2⟩:=info_parts infoK
 refine wpList_append_own_at w hgd s x 59 ho B 88 i0 _ 3 32 Tryz.underlying59 hi hz0 hz1 hz2 rfl (by decide) v l.length (tcs l) hs hown ad 1 c (tcs [t]) hx (by rw [tcs_len];rfl) hnews (tcs_cell _) (by unfold maxLen;omega) (by omega) hB ?_
 intro v' w' h1 h2 h3 h4
 rw [←tcs_app] at h1
 obtain ⟨g,c',rfl⟩:=ownsRow_succ h1
 refine h g c' w' ?_ h2 ?_
 ·show OT _ _ _ _
  unfold OT
  rw [List.length_append]
  exact h1
 ·rcases h4 with h4|h4
  ·exact Or.inl h4
  ·exact Or.inr (by cases h4;rfl)
end
theorem tcs_get (l:List Tk) (k:Nat) (hk:k<l.length):(tcs l)[k * 3]?=some (.int .i64 l[k].w)∧(tcs l)[k * 3 + 1]?=some (.string (mkB l[k].s))∧(tcs l)[k * 3 + 2]?=some (.int .i64 l[k].p):=by
 induction l generalizing k with
 | nil=>simp at hk
 | cons a l ih =>
  have e:tcs (a :: l)=[.int .i64 a.w,.string (mkB a.s),.int .i64 a.p]++tcs l:=rfl
  cases k with
  | zero=>exact ⟨rfl,rfl,rfl⟩
  | succ k =>
   have:=ih k (by simpa using hk)
   rw [e]
   have q:∀ i,([.int .i64 a.w,.string (mkB a.s),.int .i64 a.p]++tcs l:List Value)[i + 3]?=(tcs l)[i]?:=fun i=>by
    rw [List.getElem?_append_right (by simp)];simp
   have e1:(k + 1) * 3=k * 3 + 3:=by omega
   have e2:k * 3 + 3 + 1=k * 3 + 1 + 3:=by omega
   have e3:k * 3 + 3 + 2=k * 3 + 2 + 3:=by omega
   rw [e1,e2,e3,q,q,q]
   exact this
theorem TQ.of {W:World} {L B g c:Nat} {l:List Tk} (h:OT W L (.slice (some ⟨g,0,none⟩) l.length c) l) (hB:W.heap[B]?=some (.cells #[.slice (some ⟨g,0,none⟩) l.length c] 59 (0,0))) (h1:l.length≤100000) (hs:B + 4≤W.heap.size) (hg:g<B + 4) (hn:g≠B):TQ W B l:=by
 rcases h.2 with ⟨h0,_⟩|⟨g',cap,cur,e,h2,h3,h4,h5,h6,h7⟩
 ·cases h0
 obtain ⟨e1,_,e2⟩:=Value.slice.inj e
 cases e1
 cases e2
 refine ⟨_,_,hB,h4,⟨by unfold maxLen at h5;omega,h1⟩,hs,fun _=>⟨g,0,rfl,hn,hg,fun k hk=>?_⟩⟩
 have key:∀ i u,(tcs l)[i]?=some u→W.cell? ⟨g,i,none⟩=some u:=fun i u hu=>by
  rw [←h7,List.getElem?_take] at hu
  unfold World.cell?
  rw [h3]
  split at hu
  ·simpa using hu
  ·cases hu
 obtain ⟨c0,c1,c2⟩:=tcs_get l k hk
 simp only [Nat.zero_add]
 exact ⟨key _ _ c0,key _ _ c1,key _ _ c2⟩
set_option maxHeartbeats 4000000 in
set_option maxRecDepth 100000 in
theorem over_any {w:World} {L:Nat} {v:Value} {l:List Tk} (h:OT w L v l) (hL:L≤w.heap.size) (n:Nat) (hn:n≤100000) (hk:l.length≤90000):Calls Tryz.prog 59 #[v,.int .i64 n] w fun e w'=>e=.returned (lv w.heap.size)∧Below L w w'∧∀ o,TQ (w'.alloc o) w.heap.size (l++[⟨0,[],n⟩]):=by
 have H:=hide h
 obtain ⟨a,c,rfl⟩:=h.shape
 have HK:=hide hk
 have HL:=hide hL
 clear h hk hL
 unfold lv
 go_enter Tryz.func59, Tryz.ntmps59
 go_wp2_with (at_builtin;refine Sto.out ?_)
 refine Sto.mk ?_
 refine app_tk2 rfl (.tmp 5) (.tmp 8) rfl L (.slice a l.length c) l rfl (H.out.keep (below_al (below_al (below_al (Below.refl _ _))))) ⟨w.heap.size + 1 + 1,0,none⟩ 1 rfl ⟨0,[],n⟩ ?_ (by have:=HK.out;omega) (by have:=HL.out;simp;omega) ?_
 ·have:=news_tk ((w.alloc (Obj.cells #[Value.slice a l.length c] 59)).alloc (Obj.cells #[Value.nilFunc,Value.nilFunc] 83)) ⟨0,[],n⟩ 88
  simp only [World.size_alloc] at this
  exact this
 intro g c' w3 O3 G3 R3
 have hz3:=G3.out.size
 simp only [World.size_alloc] at hz3
 have hgL:Hid (g<w.heap.size∨g=w.heap.size + 3):=by
  rcases R3.out with e|e
  ·exact Or.inl (World.ownsRow.lt H.out g e.symm).2
  ·exact Or.inr (by simpa using e)
 have hB3:w3.heap[w.heap.size]?=some (.cells #[.slice a l.length c] 59 (0,0)):=by
  rw [G3.out.block _ (by simp;omega) (fun e=>by have:=(World.ownsRow.lt H.out _ e.symm).2;omega),Below.heap_alloc _ _ _ (by simp;omega),Below.heap_alloc _ _ _ (by simp)]
  exact heap_alloc_last _ _
 have hS3:w3.heap[w.heap.size + 1]?=some (.cells #[.nilFunc,.nilFunc] 83 (0,0)):=by
  rw [G3.out.block _ (by simp) (fun e=>by have:=(World.ownsRow.lt H.out _ e.symm).2;omega),Below.heap_alloc _ _ _ (by simp)]
  have:=heap_alloc_last (w.alloc (Obj.cells #[Value.slice a l.length c] 59)) (Obj.cells #[Value.nilFunc,Value.nilFunc] 83)
  rw [World.size_alloc] at this
  exact this
 have cB:w3.cell? ⟨w.heap.size,0,none⟩=some (.slice a l.length c):=by unfold World.cell?;rw [hB3];rfl
 have fB:w3.frozen? ⟨w.heap.size,0,none⟩=false:=by unfold World.frozen?;rw [hB3];rfl
 have cS:w3.cell? ⟨w.heap.size + 1,0,none⟩=some .nilFunc:=by unfold World.cell?;rw [hS3];rfl
 have cS1:w3.cell? ⟨w.heap.size + 1,1,none⟩=some .nilFunc:=by unfold World.cell?;rw [hS3];rfl
 have fS:w3.frozen? ⟨w.heap.size + 1,0,none⟩=false:=by unfold World.frozen?;rw [hS3];rfl
 have fS1:w3.frozen? ⟨w.heap.size + 1,1,none⟩=false:=by unfold World.frozen?;rw [hS3];rfl
 have B3:Hid (Below L w w3):=((below_al (below_al (below_al (Below.refl w.heap.size w)))).mono HL.out).grown G3.out (by have:=HL.out;simp;omega) (fun k hk=>(World.ownsRow.lt H.out k hk).1)
 have HB3:=hide hB3
 clear hB3 hS3 G3 R3
 have hmf:∀ (fn:Fn) (first cap:Array Value) (w:World),(Instr.makeFunc fn first cap).run Tryz.prog w=.ok (.func fn first cap) w:=fun _ _ _ _=>rfl
 have hsf:∀ (a:Addr) (w:World) (fn:Fn) (first cap:Array Value),(store a (.func fn first cap)).run Tryz.prog w=stored Tryz.prog w a (.func fn first cap) .plain:=fun a w fn f c=>run_store Tryz.prog w a _ .plain rfl
 go_wp2_with fail
 refine bodyPost_ret (v:=lv w.heap.size) (by simp [results,Tryz.results59,go_sem,lv, *]) rfl ⟨rfl,?_,fun o=>?_⟩
 ·have hh:=HL.out
  exact ((B3.out.setCell hh _).setCell (by show L≤w.heap.size + 1;omega) _).setCell (by show L≤w.heap.size + 1;omega) _
 ·refine TQ.of (L:=L) (g:=g) (c:=c') ?_ ?_ ?_ ?_ ?_ ?_
  ·rw [List.length_append]
   have ne:∀ k,k=w.heap.size∨k=w.heap.size + 1→(some g≠some k):=fun k hk e=>by cases e;have:=hgL.out;omega
   refine OT.keep (W:=((w3.setCell ⟨w.heap.size,0,none⟩ (.slice (some ⟨g,0,none⟩) (l.length + 1) c')).setCell ⟨w.heap.size + 1,0,none⟩ (.func (.func 114) #[] #[.pointer (some ⟨w.heap.size,0,none⟩)])).setCell ⟨w.heap.size + 1,1,none⟩ (.func (.func 115) #[] #[.pointer (some ⟨w.heap.size,0,none⟩)])) ?_ (below_al (Below.refl _ _))
   refine ownsRow_of (show w3.ownsRow L 88 3 (.slice (some ⟨g,0,none⟩) (l.length + [(⟨0,[],n⟩:Tk)].length) c') (l++[(⟨0,[],n⟩:Tk)]).length (tcs (l++[(⟨0,[],n⟩:Tk)])) from O3.out) fun k hk hb=>?_
   have hkg:g=k:=by simpa [Value.ownBlock] using hk
   subst hkg
   have:=hgL.out
   rw [Below.heap_setCell _ _ _ _ (by show g≠w.heap.size + 1;omega),Below.heap_setCell _ _ _ _ (by show g≠w.heap.size + 1;omega),Below.heap_setCell _ _ _ _ (by show g≠w.heap.size;omega)]
  ·rw [Below.heap_alloc _ _ _ (by simp;omega),Below.heap_setCell _ _ _ _ (by simp),Below.heap_setCell _ _ _ _ (by simp),List.length_append]
   exact blkS HB3.out _
  ·have:=HK.out;simp;omega
  ·simp;omega
  ·have:=hgL.out;omega
  ·have:=hgL.out;omega
end Lx
end Go.Proofs.YtcnfchblfcfimaaGreatDoor
