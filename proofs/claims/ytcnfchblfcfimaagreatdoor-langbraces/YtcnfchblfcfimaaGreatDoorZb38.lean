/- Merged by program: PwTypeOf. -/
import Derived.Test.YtcnfchblfcfimaaGreatDoorZb34
set_option linter.unusedSimpArgs false
set_option linter.unusedVariables false
namespace Go.Proofs.YtcnfchblfcfimaaGreatDoor
namespace Lx
open Go.RowKit
def wdQ (j:Nat):List UInt8:=if j=1 then [97,110,121] else if j=2 then [110,117,108,108] else if j=3 then [98,111,111,108] else if j=4 then [110,117,109] else if j=5 then [105,110,116] else if j=6 then [102,108,111,97,116] else if j=7 then [116,101,120,116] else if j=8 then [98,121,116,101,115] else []
theorem ix_pt (j:Nat) (hj:j<9) (w:World):(Instr.index 112 (.agg ptC) (.int .i64 j)).run Tryz.prog w=.ok (.string (mkB (wdQ j))) w:=by
 match j,hj with
 | 0,_=>exact (show (Instr.index 112 (.agg ptC) (.int .i64 0)).run Tryz.prog w=.ok (.string ⟨#[]⟩) w by kernel_rfl)
 | 1,_=>exact (show (Instr.index 112 (.agg ptC) (.int .i64 1)).run Tryz.prog w=.ok (.string ⟨#[97,110,121]⟩) w by kernel_rfl)
 | 2,_=>exact (show (Instr.index 112 (.agg ptC) (.int .i64 2)).run Tryz.prog w=.ok (.string ⟨#[110,117,108,108]⟩) w by kernel_rfl)
 | 3,_=>exact (show (Instr.index 112 (.agg ptC) (.int .i64 3)).run Tryz.prog w=.ok (.string ⟨#[98,111,111,108]⟩) w by kernel_rfl)
 | 4,_=>exact (show (Instr.index 112 (.agg ptC) (.int .i64 4)).run Tryz.prog w=.ok (.string ⟨#[110,117,109]⟩) w by kernel_rfl)
 | 5,_=>exact (show (Instr.index 112 (.agg ptC) (.int .i64 5)).run Tryz.prog w=.ok (.string ⟨#[105,110,116]⟩) w by kernel_rfl)
 | 6,_=>exact (show (Instr.index 112 (.agg ptC) (.int .i64 6)).run Tryz.prog w=.ok (.string ⟨#[102,108,111,97,116]⟩) w by kernel_rfl)
 | 7,_=>exact (show (Instr.index 112 (.agg ptC) (.int .i64 7)).run Tryz.prog w=.ok (.string ⟨#[116,101,120,116]⟩) w by kernel_rfl)
 | 8,_=>exact (show (Instr.index 112 (.agg ptC) (.int .i64 8)).run Tryz.prog w=.ok (.string ⟨#[98,121,116,101,115]⟩) w by kernel_rfl)
theorem ptO_of {o:List UInt8} {j:Nat} (hj:j<9) (h:wdQ j≠[]) (e:wdQ j=o):ptO o=some (j:Int):=by
 subst e
 match j,hj with
 | 0,_=>exact absurd rfl h
 | 1,_=>rfl
 | 2,_=>rfl
 | 3,_=>rfl
 | 4,_=>rfl
 | 5,_=>rfl
 | 6,_=>rfl
 | 7,_=>rfl
 | 8,_=>rfl
theorem ptO_no {o:List UInt8} (h:∀ j,j<9→wdQ j≠[]→wdQ j≠o):ptO o=none:=by
 have h1:=h 1 (by omega) (by decide)
 have h2:=h 2 (by omega) (by decide)
 have h3:=h 3 (by omega) (by decide)
 have h4:=h 4 (by omega) (by decide)
 have h5:=h 5 (by omega) (by decide)
 have h6:=h 6 (by omega) (by decide)
 have h7:=h 7 (by omega) (by decide)
 have h8:=h 8 (by omega) (by decide)
 simp only [wdQ] at h1 h2 h3 h4 h5 h6 h7 h8
 unfold ptO
 rw [if_neg (fun e=>h1 (by rw [e];rfl)),if_neg (fun e=>h2 (by rw [e];rfl)),if_neg (fun e=>h3 (by rw [e];rfl)),if_neg (fun e=>h4 (by rw [e];rfl)),if_neg (fun e=>h5 (by rw [e];rfl)),if_neg (fun e=>h6 (by rw [e];rfl)),if_neg (fun e=>h7 (by rw [e];rfl)),if_neg (fun e=>h8 (by rw [e];rfl))]
structure SQ (w:World) (B:Nat) (r:List Tk) (i:Nat) (t:Tk) (W:World):Prop where
 tq:TQ W B r
 gp:Gp W
 lo:15≤B
 lb:LB W w.heap.size B
 ex:Ty W (w.heap.size + 1) tz tzs
 tb:Tb W i t
 fb:FB B w W
theorem SQ.after {w W W1:World} {B i:Nat} {t:Tk} {r r':List Tk} (h:SQ w B r i t W) (hB:B + 4≤w.heap.size) (hi:w.heap.size≤i) (k:FB B W W1) (hq:TQ W1 B r'):SQ w B r' i t W1 :=
 ⟨hq,h.gp.fb k h.lo,h.lo,h.lb.fb k (by omega),h.ex.fb k (by omega),h.tb.fb k (by omega),h.fb.trans k⟩
theorem SQ.below {w W W1:World} {B i:Nat} {t:Tk} {r:List Tk} (h:SQ w B r i t W) (hB:B + 4≤w.heap.size) (hi:w.heap.size≤i) (k:Below W.heap.size W W1):SQ w B r i t W1:=h.after hB hi (FB.of k) (h.tq.below k)
theorem SQ.lq {w W:World} {B i:Nat} {t:Tk} {r:List Tk} (h:SQ w B r i t W) (hk:Okl r):Lq W B r:=⟨h.tq,hk,h.gp,h.lo⟩
theorem kq_one {m s:Nat} {W:World} {x:TT m} {q:S2} (k:Int) (h:KQ m W x q s W.heap.size):KQ (m + 1) (W.alloc (.cells (tcl (thd m x) q) 48)) ((⟨k,[]⟩,[x]):TT (m + 1)) ⟨.slice none 0 0,.slice (some ⟨W.heap.size,0,none⟩) 1 1⟩ s (W.heap.size + 1):=by
 have hs:=h.1
 refine ⟨by omega,by simp,fun W' h'=>⟨Or.inl ⟨rfl,rfl⟩,Or.inr ⟨W.heap.size,0,1,none,rfl,Nat.le_refl _,by decide,fun _=>?_,fun i hi=>?_⟩⟩⟩
 ·have hb:=(h' W.heap.size (by omega) (by omega)).trans (show _=some (Obj.cells (tcl (thd m x) q) 48 (0,0)) from Array.getElem?_push_size)
  exact ⟨rfl,(Array.getElem?_eq_some_iff.1 hb).1⟩
 ·have hb:=(h' W.heap.size (by omega) (by omega)).trans (show _=some (Obj.cells (tcl (thd m x) q) 48 (0,0)) from Array.getElem?_push_size)
  have hi0:i=0:=by simp at hi;omega
  subst hi0
  refine ⟨q.ns,q.ls,?_,?_⟩
  ·have:=(show Ty W' W.heap.size (thd m x) q from ⟨hb⟩).range
   simpa [tcl] using this
  ·refine h.2.2 W' fun k a b=>(h' k a (by omega)).trans ?_
   exact Below.heap_alloc _ _ _ b
theorem kq_nil {m s:Nat} {W:World} (k:Int) (hs:s≤W.heap.size):KQ (m + 1) W ((⟨k,[]⟩,[]):TT (m + 1)) tzs s W.heap.size :=
 ⟨hs,Nat.le_refl _,fun W' _=>⟨Or.inl ⟨rfl,rfl⟩,Or.inl ⟨rfl,rfl⟩⟩⟩
set_option maxHeartbeats 4000000 in
set_option maxRecDepth 100000 in
theorem type_step {m f:Nat} {M:List Tk→Sum Int (TT m×List Tk)} (hM:TpOk m 51 M f) (hG:Gd M) {w:World} {B:Nat} {l:List Tk} (h:Lq w B l) (hl:l.length≤f + 1):Calls Tryz.prog 51 #[lv B] w fun e w'=>PT (m + 1) B w (tyT M l) e w':=by
 have hB4:=h.tq.sz
 obtain ⟨t,r,rfl⟩:=h.ok.cons
 have hl1:Hid (r.length≤f):=by show _≤_;simpa using hl
 have hok:Hid (ownT t≠[]→Okl r):=fun e=>h.ok.tail (own_w e)
 have H:=hide h
 have HM:=hide hM
 have HG:=hide hG
 have ZL:=hide (lb_new w B)
 have Z0:=hide (tz_new (w.alloc (.cells #[.func (.func 114) #[] #[.pointer (some ⟨B,0,none⟩)],.func (.func 115) #[] #[.pointer (some ⟨B,0,none⟩)]] 83)))
 rw [World.size_alloc] at Z0
 have hx:Hid (∀ w',Below w.heap.size w w'→Calls Tryz.prog 115 #[.pointer (some ⟨B,0,none⟩)] w' fun e w''=>e=.returned (tkV t)∧TQ w'' B r∧FB B w' w''):=fun w' hb=>take_any (H.out.tq.below hb)
 have ho:=hide (own_any t)
 unfold tkV at hx ho
 have hne:w.heap.size + 1≠B:=by omega
 have hne0:w.heap.size≠B:=by omega
 obtain ⟨R,hR⟩:∃ R,tyT M (t :: r)=R:=⟨_,rfl⟩
 have HR:=hide hR
 rw [hR]
 obtain ⟨S,hS⟩:∃ S,mkB (ownT t)=S:=⟨_,rfl⟩
 rw [hS] at ho
 clear hR h hl hM hG
 unfold lv
 go_enter Tryz.func51, Tryz.ntmps51
 go_wp2_with (go_at_call 115;refine Sto.out ?_)
 refine Sto.mk ((hx.out _ (below_al (below_al (Below.refl _ _)))).mono ?_)
 rintro e w3 ⟨rfl,hq3,hb3⟩
 have F3:=hide ((FB.of (below_al (below_al (Below.refl _ _)))).trans hb3)
 have hz3:=hb3.size
 simp only [World.size_alloc] at hz3
 have P3:Hid (SQ w B r w3.heap.size t (w3.alloc (.cells #[.int .i64 t.w,.string (mkB t.s),.int .i64 t.p] 88))):=⟨hq3.al,(H.out.gp.fb F3.out H.out.lo).below (below_al (Below.refl _ _)),H.out.lo,(((ZL.out.below (below_al (Below.refl _ _))).fb hb3 hne0)).below (below_al (Below.refl _ _)),(Z0.out.fb hb3 hne).below (below_al (Below.refl _ _)),tb_new w3 t,F3.out.al⟩
 have hi3:w.heap.size≤w3.heap.size:=by omega
 clear hq3 hb3 F3 hx ZL Z0
 go_wp2_with (go_at_call 95;refine Sto.out ?_)
 refine Sto.mk ((ho.out _).mono ?_)
 rintro e w4 ⟨rfl,hb4⟩
 have S4:=hide (P3.out.below hB4 hi3 hb4)
 clear hb4 P3
 have kL:=S4.out.lb.cells
 have hu:tyT M (t :: r)=(if ownT t=[108,105,115,116] then ltT M r
  else if ownT t=[114,101,99,111,114,100] then fdT M 10 r
  else if ownT t=[117,110,105,111,110] then fdT M 11 r
  else match ptO (ownT t) with
   | some k=>.inr ((⟨k,[]⟩,[]),r)
   | none=>.inl t.p):=rfl
 rw [HR.out] at hu
 by_cases n0:ownT t=[108,105,115,116]
 ·have hS':S=⟨#[108,105,115,116]⟩:=by rw [←hS,n0];rfl
  have OK:=hide (hok.out (by rw [n0];simp))
  rw [if_pos n0] at hu
  have HU:=hide hu
  subst hS'
  clear hS hu n0 ho
  have W1:Hid (∀ W,Lq W B r→Calls Tryz.prog 96 #[lv B,.string ⟨#[40]⟩] W fun e w'=>WP B W (wantL [40] r) e w'):=fun W q=>wantL_any [40] q
  unfold lv at W1
  go_wp2_with (go_at_call 96;refine Sto.out ?_)
  refine Sto.mk ((W1.out _ (S4.out.lq OK.out)).mono ?_)
  rcases h1:wantL [40] r with p|l1
  ·rintro e w5 ⟨hb5,rfl⟩
   have e2:Hid (R=.inl p):=by show _=_;rw [HU.out];simp [ltT,h1]
   clear HU h1
   first|exact ⟨rfl,PT.bad e2.out (S4.out.fb.trans hb5)⟩|(go_wp2_with fail;exact ⟨rfl,PT.bad e2.out (S4.out.fb.trans hb5)⟩)
  rintro e w5 ⟨hb5,rfl,hq5⟩
  have N1:=hide (want_nx OK.out (by simp) h1)
  have S5:=hide (S4.out.after hB4 hi3 hb5 hq5)
  have z5:=hb5.size
  clear hb5 hq5 W1 kL
  have kL:=S5.out.lb.cells
  have MM:Hid (∀ W,Lq W B l1→Calls Tryz.prog 51 #[lv B] W fun e w'=>PT m B W (M l1) e w'):=fun W q=>HM.out W B l1 q (by have:=N1.out.2;have:=hl1.out;omega)
  unfold lv at MM
  go_wp2_with (go_at_call 51;refine Sto.out ?_)
  refine Sto.mk ((MM.out _ (S5.out.lq N1.out.1)).mono ?_)
  rcases h2:M l1 with p|x
  ·rintro e w6 ⟨hb6,rfl⟩
   have e2:Hid (R=.inl p):=by show _=_;rw [HU.out];simp [ltT,h1,h2]
   clear HU h1 h2
   first|exact ⟨rfl,PT.bad e2.out (S5.out.fb.trans hb6)⟩|(go_wp2_with fail;exact ⟨rfl,PT.bad e2.out (S5.out.fb.trans hb6)⟩)
  rintro e w6 ⟨hb6,q,rfl,hk6,hq6⟩
  have N2:=hide (HG.out _ _ N1.out.1 h2)
  obtain ⟨a,mm,c,a',m',c',hqs⟩:=hk6.rd.shape
  subst hqs
  have K6:=hide hk6
  have S6:=hide (S5.out.after hB4 hi3 hb6 hq6)
  have z6:=hb6.size
  have z50:=S5.out.fb.size
  have zex5:=S5.out.ex.lt
  clear hb6 hq6 hk6 MM kL
  have S7:=hide (S6.out.below hB4 hi3 (below_al (o:=.cells (tcl (thd m x.1) ⟨.slice a mm c,.slice a' m' c'⟩) 48) (Below.refl _ _)))
  unfold tcl tvs at S7
  dsimp only at S7
  have kL:=S7.out.lb.cells
  have W3:Hid (∀ W,Lq W B x.2→Calls Tryz.prog 96 #[lv B,.string ⟨#[41]⟩] W fun e w'=>WP B W (wantL [41] x.2) e w'):=fun W q=>wantL_any [41] q
  unfold lv at W3
  unfold tcl tvs
  dsimp only
  go_wp2_with (go_at_call 96;refine Sto.out ?_)
  refine Sto.mk ((W3.out _ (S7.out.lq N2.out.1)).mono ?_)
  rcases h3:wantL [41] x.2 with p|l3
  ·rintro e w8 ⟨hb8,rfl⟩
   have e2:Hid (R=.inl p):=by show _=_;rw [HU.out];simp [ltT,h1,h2,h3]
   clear HU h1 h2 h3
   first|exact ⟨rfl,PT.bad e2.out (S7.out.fb.trans hb8)⟩|(go_wp2_with fail;exact ⟨rfl,PT.bad e2.out (S7.out.fb.trans hb8)⟩)
  rintro e w8 ⟨hb8,rfl,hq8⟩
  have e2:Hid (R=.inr ((⟨9,[]⟩,[x.1]),l3)):=by show _=_;rw [HU.out];simp [ltT,h1,h2,h3]
  have hn6:w6.heap.size≠B:=by omega
  have X8:=hide ((ty_new w6 (thd m x.1) ⟨.slice a mm c,.slice a' m' c'⟩).fb hb8 hn6)
  have K8:=hide ((K6.out.al (o:=.cells (tcl (thd m x.1) ⟨.slice a mm c,.slice a' m' c'⟩) 48)).fb hb8 (by omega))
  have S8:=hide (S7.out.after hB4 hi3 hb8 hq8)
  have z8:=hb8.size
  simp only [World.size_alloc] at z8
  clear hb8 hq8 W3 kL HU h1 h2 h3 S6 S7 K6
  have x0:=X8.out.cells
  have k0:=S8.out.ex.cells
  have kf:=S8.out.ex.frz
  have kl:=S8.out.ex.lt
  go_wp2_with fail
  refine bodyPost_ret (v:=.agg (tcl (⟨9,[]⟩:Th) ⟨.slice none 0 0,.slice (some ⟨w8.heap.size,0,none⟩) 1 1⟩)) (by simp [results,Tryz.results51,go_sem,tcl,tvs,tz,tzs,tf, *]) rfl (PT.good (n:=m + 1) (x:=((⟨9,[]⟩,[x.1]),l3)) e2.out ?_ ?_ ?_)
  ·refine FB.al ?_
   (iterate 3 (refine FB.set ?_ (by omega)))
   exact S8.out.fb
  ·have KY:KQ m (((w8.setCell ⟨w.heap.size + 1,0,none⟩ (.int .i64 9)).setCell ⟨w.heap.size + 1,1,none⟩ (.slice none 0 0)).setCell ⟨w.heap.size + 1,2,none⟩ (.slice (some ⟨w8.heap.size,0,none⟩) 1 1)) x.1 ⟨.slice a mm c,.slice a' m' c'⟩ w5.heap.size w8.heap.size:=by
    (iterate 3 (refine KQ.set ?_ (by omega)))
    exact K8.out.fin (Nat.le_refl _)
   have sY:(((w8.setCell ⟨w.heap.size + 1,0,none⟩ (.int .i64 9)).setCell ⟨w.heap.size + 1,1,none⟩ (.slice none 0 0)).setCell ⟨w.heap.size + 1,2,none⟩ (.slice (some ⟨w8.heap.size,0,none⟩) 1 1)).heap.size=w8.heap.size:=by simp
   generalize World.setCell _ _ _=Y at KY sY ⊢
   rw [←sY] at KY ⊢
   refine KQ.fin (s:=w5.heap.size) (e:=Y.heap.size + 1) ?_ (by omega)
   exact kq_one 9 KY
  ·refine TQ.al ?_
   (iterate 3 (refine TQ.set ?_ (by omega)))
   exact S8.out.tq
 by_cases n1:ownT t=[114,101,99,111,114,100]
 ·have hS':S=⟨#[114,101,99,111,114,100]⟩:=by rw [←hS,n1];rfl
  have OK:=hide (hok.out (by rw [n1];simp))
  rw [if_neg n0,if_pos n1] at hu
  have HU:=hide hu
  subst hS'
  clear hS hu n1 ho
  have FF:Hid (∀ W,Lq W B r→Calls Tryz.prog 97 #[lv B,.int .i64 10] W fun e w'=>PT (m + 1) B W (fdT M 10 r) e w'):=fun W q=>fields_any HM.out HG.out 10 q hl1.out
  unfold lv at FF
  go_wp2_with (go_at_call 97;refine Sto.out ?_)
  refine Sto.mk ((FF.out _ (S4.out.lq OK.out)).mono ?_)
  rcases h1:fdT M 10 r with p|x
  ·rintro e w5 ⟨hb5,rfl⟩
   have e2:Hid (R=.inl p):=by show _=_;rw [HU.out,h1]
   clear HU h1
   first|exact ⟨rfl,PT.bad e2.out (S4.out.fb.trans hb5)⟩|(go_wp2_with fail;exact ⟨rfl,PT.bad e2.out (S4.out.fb.trans hb5)⟩)
  rintro e w5 ⟨hb5,q,rfl,hk5,hq5⟩
  obtain ⟨a,mm,c,a',m',c',hqs⟩:=hk5.rd.shape
  subst hqs
  have K5:=hide hk5
  have hz4:=S4.out.fb.size
  have hz5:=hb5.size
  have hlt4:=S4.out.ex.lt
  have S5:=hide (S4.out.after hB4 hi3 hb5 hq5)
  clear hb5 hq5 hk5 kL
  have e2:Hid (R=.inr x):=by show _=_;rw [HU.out,h1]
  clear h1 HU
  have kz:=S5.out.ex.cells
  have kf:=S5.out.ex.frz
  have kl:=S5.out.ex.lt
  unfold tcl tvs
  dsimp only
  go_wp2_with fail
  refine bodyPost_ret (v:=.agg (tcl (thd (m + 1) x.1) ⟨.slice a mm c,.slice a' m' c'⟩)) (by simp [results,Tryz.results51,go_sem,tcl,tvs,tz,tzs,tf, *]) rfl (PT.good (x:=x) e2.out ?_ ?_ ?_)
  ·(iterate 3 (refine FB.set ?_ (by omega)))
   exact S5.out.fb
  ·refine KQ.fin (s:=w4.heap.size) (e:=w5.heap.size) ?_ (by omega)
   (iterate 3 (refine KQ.set ?_ (by omega)))
   exact K5.out
  ·(iterate 3 (refine TQ.set ?_ (by omega)))
   exact S5.out.tq
 by_cases n2:ownT t=[117,110,105,111,110]
 ·have hS':S=⟨#[117,110,105,111,110]⟩:=by rw [←hS,n2];rfl
  have OK:=hide (hok.out (by rw [n2];simp))
  rw [if_neg n0,if_neg n1,if_pos n2] at hu
  have HU:=hide hu
  subst hS'
  clear hS hu n2 ho
  have FF:Hid (∀ W,Lq W B r→Calls Tryz.prog 97 #[lv B,.int .i64 11] W fun e w'=>PT (m + 1) B W (fdT M 11 r) e w'):=fun W q=>fields_any HM.out HG.out 11 q hl1.out
  unfold lv at FF
  go_wp2_with (go_at_call 97;refine Sto.out ?_)
  refine Sto.mk ((FF.out _ (S4.out.lq OK.out)).mono ?_)
  rcases h1:fdT M 11 r with p|x
  ·rintro e w5 ⟨hb5,rfl⟩
   have e2:Hid (R=.inl p):=by show _=_;rw [HU.out,h1]
   clear HU h1
   first|exact ⟨rfl,PT.bad e2.out (S4.out.fb.trans hb5)⟩|(go_wp2_with fail;exact ⟨rfl,PT.bad e2.out (S4.out.fb.trans hb5)⟩)
  rintro e w5 ⟨hb5,q,rfl,hk5,hq5⟩
  obtain ⟨a,mm,c,a',m',c',hqs⟩:=hk5.rd.shape
  subst hqs
  have K5:=hide hk5
  have hz4:=S4.out.fb.size
  have hz5:=hb5.size
  have hlt4:=S4.out.ex.lt
  have S5:=hide (S4.out.after hB4 hi3 hb5 hq5)
  clear hb5 hq5 hk5 kL
  have e2:Hid (R=.inr x):=by show _=_;rw [HU.out,h1]
  clear h1 HU
  have kz:=S5.out.ex.cells
  have kf:=S5.out.ex.frz
  have kl:=S5.out.ex.lt
  unfold tcl tvs
  dsimp only
  go_wp2_with fail
  refine bodyPost_ret (v:=.agg (tcl (thd (m + 1) x.1) ⟨.slice a mm c,.slice a' m' c'⟩)) (by simp [results,Tryz.results51,go_sem,tcl,tvs,tz,tzs,tf, *]) rfl (PT.good (x:=x) e2.out ?_ ?_ ?_)
  ·(iterate 3 (refine FB.set ?_ (by omega)))
   exact S5.out.fb
  ·refine KQ.fin (s:=w4.heap.size) (e:=w5.heap.size) ?_ (by omega)
   (iterate 3 (refine KQ.set ?_ (by omega)))
   exact K5.out
  ·(iterate 3 (refine TQ.set ?_ (by omega)))
   exact S5.out.tq
 have b0:=tl_lit (m:=[108,105,115,116]) (fun q=>n0 (mkB_inj (hS.trans q)))
 have b1:=tl_lit (m:=[114,101,99,111,114,100]) (fun q=>n1 (mkB_inj (hS.trans q)))
 have b2:=tl_lit (m:=[117,110,105,111,110]) (fun q=>n2 (mkB_inj (hS.trans q)))
 rw [if_neg n0,if_neg n1,if_neg n2] at hu
 have HU:=hide hu
 have HS:=hide hS
 obtain ⟨_,tt,fr,hc⟩:=S4.out.gp
 clear hu hS n0 n1 n2 kL
 go_wp2_with (refine wpList_load_row rfl 112 _ rfl 2 rfl tt ptC fr _ hc Tryz.underlying112 rfl (by kernel_rfl) ?_)
 clear hc b0 b1 b2
 have hi3w:w3.heap.size=w3.heap.size:=rfl
 go_loopw [5,6,32] (fun _ _ i w'=>∃ j:Nat,j≤9∧i=.int .i64 j∧Hid ((∀ i:Nat,i<j→wdQ i≠[]→wdQ i≠ownT t)∧SQ w B r w3.heap.size t w')) (fun _ _ i _=>(9 - intOf i).toNat)
 case atStart=>exact ⟨0,by omega,rfl,(fun i h=>by omega),S4.out⟩
 case round =>
  clear S4
  obtain ⟨j,hj,rfl,HH⟩:=hrel
  have Hn:=hide HH.out.1
  have Hs:=hide HH.out.2
  obtain ⟨t0,t1,t2⟩:=Tb.cell2 Hs.out.tb
  clear HH
  by_cases hj8:j<9
  ·have hji:(j:Int)<9:=by omega
   have hix:=ix_pt j hj8
   by_cases hw:wdQ j=[]
   ·rw [hw] at hix
    have hixn:∀ w:World,(Instr.index 112 (.agg ptC) (.int .i64 j)).run Tryz.prog w=.ok (.string ⟨#[]⟩) w:=hix
    have HW:=hide hw
    clear hix hw
    go_wp2_with fail
    refine ⟨⟨j + 1,by omega,by go_num,?_,Hs.out⟩,by simp [intOf];omega⟩
    intro i hi h1 h2
    by_cases e:i=j
    ·subst e;exact h1 HW.out
    ·exact Hn.out i (by omega) h1 h2
   ·obtain ⟨U,hU⟩:∃ U,mkB (wdQ j)=U:=⟨_,rfl⟩
    rw [hU] at hix
    have hUn:=tl_nil (fun e:U=nilB=>hw (by have:=mkB_inj (hU.trans (show U=mkB [] from e));exact this))
    have hUe:U.toList.isEmpty=false:=by
     cases hq:U.toList with
     | nil=>exact absurd hq hUn
     | cons a l=>rfl
    have HW:=hide hw
    have HV:=hide hU
    clear hw hU
    by_cases he:U=S
    ·subst he
     have hop:Hid (R=.inr ((⟨(j:Nat),[]⟩,[]),r)):=by
      show _=_
      rw [HU.out,ptO_of hj8 HW.out (mkB_inj (HV.out.trans HS.out.symm))]
     go_wp2_with (go_at_call 95;refine Sto.out ?_)
     refine Sto.mk ((ho.out _).mono ?_)
     rintro e w5 ⟨rfl,hb5⟩
     have S5:=hide (Hs.out.below hB4 hi3 hb5)
     clear hb5 Hs
     have kz:=S5.out.ex.cells
     have kf:=S5.out.ex.frz
     have kl:=S5.out.ex.lt
     have z5:=S5.out.fb.size
     go_wp2_with fail
     refine bodyPost_ret (v:=.agg (tcl (⟨(j:Nat),[]⟩:Th) tzs)) (by simp [results,Tryz.results51,go_sem,tcl,tvs,tz,tzs,tf, *]) rfl (PT.good (n:=m + 1) (x:=((⟨(j:Nat),[]⟩,[]),r)) hop.out ?_ ?_ ?_)
     ·(iterate 3 (refine FB.set ?_ (by omega)))
      exact S5.out.fb
     ·exact kq_nil _ (by simp;omega)
     ·(iterate 3 (refine TQ.set ?_ (by omega)))
      exact S5.out.tq
    ·have hne:=tl_ne he
     have HE:=hide he
     clear he
     go_wp2_with (go_at_call 95;refine Sto.out ?_)
     refine Sto.mk ((ho.out _).mono ?_)
     rintro e w5 ⟨rfl,hb5⟩
     have S5:=hide (Hs.out.below hB4 hi3 hb5)
     clear hb5 Hs
     go_wp2_with fail
     refine ⟨⟨j + 1,by omega,by go_num,?_,S5.out⟩,by simp [intOf];omega⟩
     intro i hi h1 h2
     by_cases e:i=j
     ·subst e;exact HE.out (by rw [←HV.out,←HS.out,h2])
     ·exact Hn.out i (by omega) h1 h2
  ·have hji:¬ (j:Int)<9:=by omega
   have hR2:Hid (R=.inl t.p):=by
    show _=_
    rw [HU.out,ptO_no fun i hi=>Hn.out i (by omega)]
   go_wp2_with fail
   exact ⟨rfl,PT.bad hR2.out Hs.out.fb⟩
theorem typeOf_ok:∀ f,TpOk f 51 (tyf f) f
 | 0=>fun w B l h hl=>by
  obtain ⟨t,r,rfl⟩:=h.ok.cons
  simp at hl
 | f + 1=>fun w B l h hl=>type_step (typeOf_ok f) (tyf_nx f) h hl
end Lx
end Go.Proofs.YtcnfchblfcfimaaGreatDoor
