/- Merged by program: VpNamed, VqBranch, VrStep, VsMap. -/
import Derived.Test.YtgicnopppgnjjaaGreatDoorZd26
set_option linter.unusedSimpArgs false
set_option linter.unusedVariables false
namespace Go.Proofs.YtgicnopppgnjjaaGreatDoor
namespace Lx
open Go.RowKit
theorem FB.grown {B:Nat} {w W W':World} {row:Option Nat} (h:FB B w W) (hg:W.grownBy W' row) (hr:∀ g,row=some g→w.heap.size≤g):FB B w W' :=
 ⟨hg.os.trans h.os,hg.tape.trans h.tape,hg.output.trans h.output,Nat.le_trans h.size hg.size,fun k hk hn=>(hg.block k (Nat.lt_of_lt_of_le hk h.size) (fun e=>by have:=hr k e.symm;omega)).trans (h.blk k hk hn)⟩
theorem Lq.grown {B:Nat} {W W':World} {l:List Tk} {row:Option Nat} (h:Lq W B l) (hg:W.grownBy W' row) (hr:∀ g,row=some g→B + 4≤g):Lq W' B l:=by
 have hz:=h.tq.sz
 have hlo:=h.lo
 refine ⟨h.tq.keep hg.size fun k hk=>hg.block k (by omega) (fun e=>by have:=hr k e.symm;omega),h.ok,?_,h.lo⟩
 obtain ⟨t,fr,hc⟩:=h.gp
 exact ⟨t,fr,(hg.block _ (Array.getElem?_eq_some_iff.1 hc).1 (fun e=>by have:=hr _ e.symm;omega)).trans hc⟩
theorem LB.grown {B i:Nat} {W W':World} {row:Option Nat} (h:LB W i B) (hg:W.grownBy W' row) (hr:∀ g,row=some g→i<g):LB W' i B:=(hg.block i h.lt (fun e=>by have:=hr i e.symm;omega)).trans h
theorem wantL_any (m:List UInt8) {w:World} {B:Nat} {l:List Tk} (h:Lq w B l):Calls Tryz.prog 89 #[lv B,.string (mkB m)] w fun e w'=>WP B w (wantL m l) e w':=by
 obtain ⟨t,l2,rfl⟩:=h.ok.cons
 exact want_any m h.tq
theorem hasL_any (m:List UInt8) {w:World} {B:Nat} {l:List Tk} (h:Lq w B l):Calls Tryz.prog 72 #[lv B,.string (mkB m)] w fun e w'=>e=.returned (.bool (hasL m l).1)∧TQ w' B (hasL m l).2∧FB B w w':=by
 obtain ⟨t,l2,rfl⟩:=h.ok.cons
 exact has_any m h.tq
theorem nameL_any (ns:List (List UInt8)) {v:Value} {w:World} {B:Nat} {l:List Tk} (h:Lq w B l) (hv:NL w v (ns.map mkB)) (hB:NotB B v):Calls Tryz.prog 126 #[lv B,v] w fun e w'=>NP B w (nameL ns l) e w':=by
 obtain ⟨t,l2,rfl⟩:=h.ok.cons
 exact name_any ns v h.tq hv hB
theorem own_len {W:World} {L N:Nat} {v:Value} {l:List ByteArray} (h:OwnS W L v l) (e:l.length=N):W.ownsRow L 9 1 v N (scs l):=by subst e;exact h
theorem row_len {W:World} {L N m T sz:Nat} {v:Value} {xs:List Value} (h:W.ownsRow L T sz v m xs) (e:m=N):W.ownsRow L T sz v N xs:=by subst e;exact h
def NmP (n B:Nat) (w:World) (o:Sum Int (List (List UInt8)×List (ET n)×List Tk)) (e:Ending) (w':World):Prop:=FB B w w'∧match o with
 | .inl p=>e=.panicked (pw p)
 | .inr y=>∃ nv v xs,e=.returned (.tuple #[nv,v])∧E2 n (w.heap.size + 1) w' nv v (y.1.map mkB) y.2.1 xs∧TQ w' B y.2.2
theorem NmP.bad {n B:Nat} {w w':World} {R:Sum Int (List (List UInt8)×List (ET n)×List Tk)} {p:Int} (e:R=.inl p) (hb:FB B w w'):NmP n B w R (.panicked (pw p)) w':=by
 rw [e];exact ⟨hb,rfl⟩
theorem NmP.good {n B:Nat} {w w':World} {R:Sum Int (List (List UInt8)×List (ET n)×List Tk)} {y:List (List UInt8)×List (ET n)×List Tk} {nv v:Value} {xs:List Value} (e:R=.inr y) (hb:FB B w w') (hk:E2 n (w.heap.size + 1) w' nv v (y.1.map mkB) y.2.1 xs) (ht:TQ w' B y.2.2):NmP n B w R (.returned (.tuple #[nv,v])) w':=by
 rw [e];exact ⟨hb,nv,v,xs,rfl,hk,ht⟩
structure NI (n B f:Nat) (k:List UInt8) (M:List Tk→Sum Int (ET n×List Tk)) (w:World) (R:Sum Int (List (List UInt8)×List (ET n)×List Tk)) (W:World) (nv v:Value) (ns:List (List UInt8)) (xs:List (ET n)) (l:List Tk):Prop where
 fuel:∃ g,l.length≤g∧nmT k M g ns xs l=R
 lq:Lq W B l
 fb:FB B w W
 rows:∃ us,E2 n (w.heap.size + 1) W nv v (ns.map mkB) xs us
 lb:LB W w.heap.size B
 few:ns.length + l.length≤100000∧xs.length=ns.length∧l.length≤f
set_option maxHeartbeats 4000000 in
set_option maxRecDepth 100000 in
theorem named_any {n f:Nat} {M:List Tk→Sum Int (ET n×List Tk)} (hM:MpOk n 33 M f) (hG:Gd M) (k:List UInt8) (hk:k≠[]) {w:World} {B:Nat} {l:List Tk} (h:Lq w B l) (hl:l.length≤f):Calls Tryz.prog 165 #[lv B,.string (mkB k),.func (.func 33) #[] #[]] w fun e w'=>NmP n B w (namedT k M l) e w':=by
 have hB4:=h.tq.sz
 have hln:l.length≤100000:=by obtain ⟨a,c,_,_,_,_⟩:=h.tq;omega
 have H:=hide h
 have ZL:=hide (lb_new w B)
 obtain ⟨R,hR⟩:∃ R,namedT k M l=R:=⟨_,rfl⟩
 rw [hR]
 have HR:=hide hR
 have hne0:w.heap.size≠B:=by omega
 have HM:=hide hM
 have HK:=hide hk
 have HG:=hide hG
 have hnx:=has_nx (m:=[125]) h.ok (by simp)
 have hh:Hid (∀ w',Lq w' B l→Calls Tryz.prog 72 #[lv B,.string ⟨#[125]⟩] w' fun e w''=>e=.returned (.bool (hasL [125] l).1)∧TQ w'' B (hasL [125] l).2∧FB B w' w''):=fun w' hq=>hasL_any [125] hq
 clear hR h hM hG
 unfold lv at hh ⊢
 rcases hb:(hasL [125] l).1 with _|_
 ·rw [hb] at hh
  have e1:=hnx.2 hb
  rw [e1] at hh
  have HR2:Hid (nmT k M l.length [] [] l=R):=by show _=_;rw [←HR.out];simp [namedT,hb,e1]
  clear HR hb hnx e1
  go_enter Tryz.func165, Tryz.ntmps165
  go_wp2_with (first|(go_at_call 72;refine (hh.out _ H.out.al).mono ?_;rintro e w3 ⟨rfl,hq3,hb3⟩;have kL:=(ZL.out.fb hb3 hne0).cells;have kl:=(ZL.out.fb hb3 hne0).lt))
  have start:Hid (NI n B f k M w R w3 (.slice none 0 0) (.slice none 0 0) [] [] l):=⟨⟨_,Nat.le_refl _,HR2.out⟩,H.out.al.fb hb3 hq3 H.out.ok,(FB.of (below_al (Below.refl _ _))).trans hb3,⟨[],E2.nil _ _ _⟩,ZL.out.fb hb3 hne0,by simp;omega,rfl,hl⟩
  clear HR2 hq3 hb3 kL kl ZL hh H hl
  go_loopw [6,7] (fun nv v w'=>∃ ns xs l',Hid (NI n B f k M w R w' nv v ns xs l')) (fun _ _ w'=>lenB w' B)
  case atStart=>exact ⟨[],[],l,start.out⟩
  case round =>
   obtain ⟨ns,xs,l1,HI⟩:=hrel
   clear start
   obtain ⟨⟨g,hg,hfu⟩,hlq,hfb,⟨us,hE⟩,hlb,hfew1,hfew2,hfew3⟩:=HI.out
   have hBw:B<w.heap.size + 1:=by omega
   obtain ⟨a,c,a',c',e1,e2⟩:=hE.shape
   rw [List.length_map] at e1
   rw [hfew2] at e2
   have hnot:=hE.notB hBw
   have hnl:=hE.nl
   obtain ⟨N,hN⟩:∃ N,ns.length=N:=⟨_,rfl⟩
   rw [hN] at e1 e2 hfew1 hfew2
   subst e1 e2
   have h1:0<l1.length:=by obtain ⟨t,r,rfl⟩:=hlq.ok.cons;simp
   obtain ⟨g,rfl⟩:∃ g',g=g' + 1:=⟨g - 1,by omega⟩
   have hlen:=hlq.tq.lenB
   have HNM:Hid (∀ w',Lq w' B l1→NL w' (.slice a N c) (ns.map mkB)→Calls Tryz.prog 126 #[lv B,.slice a N c] w' fun e w''=>NP B w' (nameL ns l1) e w''):=fun w' p1 p2=>nameL_any ns p1 p2 hnot
   have LQ:=hide hlq
   have FBw:=hide hfb
   have HE:=hide hE
   have LBw:=hide hlb
   have NL0:=hide hnl
   have hc0:=hlb.cells
   have hN2:(ns.map mkB).length=N:=by rw [List.length_map];exact hN
   have HN2:=hide hN2
   have hx13:xs.length=N:=hfew2
   have HX:=hide hx13
   have HF3:=hide hfew3
   have hN200:N≤200000:=by omega
   have Hlen:=hide hlen
   have FU:=hide hfu
   have hG1:=hide hg
   clear HI hfu hlq hfb hE hlb hnl hnot hN2 hx13 hfew3 hlen hfew2 hg
   unfold lv at HNM
   go_wp2_with (go_at_call 126;refine Sto.out ?_)
   refine Sto.mk ?_
   rcases hs:nameL ns l1 with p|s
   ·rw [hs] at HNM
    have e2:Hid (R=.inl p):=by show _=_;rw [←FU.out];simp [nmT,hs]
    refine (HNM.out _ LQ.out NL0.out).mono ?_
    rintro e w1 ⟨hb1,rfl⟩
    clear FU hs
    first|exact ⟨rfl,NmP.bad e2.out (FBw.out.trans hb1)⟩|(go_wp2_with fail;exact ⟨rfl,NmP.bad e2.out (FBw.out.trans hb1)⟩)
   rw [hs] at HNM
   have N1:=hide (name_nx LQ.out.ok hs)
   refine (HNM.out _ LQ.out NL0.out).mono ?_
   rintro e w1 ⟨hb1,rfl,hq1⟩
   have Q1:=hide (LQ.out.fb hb1 hq1 N1.out.1)
   have E1:=hide (HE.out.fb hb1 hBw)
   have L1:=hide (LBw.out.fb hb1 hne0)
   have F1:=hide (FBw.out.trans hb1)
   clear hb1 hq1 hc0 LQ HE LBw FBw NL0 HNM
   go_wp2_with (at_builtin;refine Sto.out ?_)
   refine Sto.mk ?_
   refine app_1s rfl (.tmp 10) (.tmp 14) rfl (w.heap.size + 1) (.slice a N c) N (scs (ns.map mkB)) rfl (own_len E1.out.al.nrow HN2.out) w1.heap.size 1 rfl (mkB s.1) (cell_one_new _ _ _ 0 _ rfl) hN200 (by rw [World.size_alloc];have:=F1.out.size;omega) ?_
   intro av cv w2 o2 g2 at2
   have hr2:=E1.out.lt
   have E3:=hide (E1.out.al.name HN2.out g2.out o2.out at2.out)
   have Q2:=hide (Q1.out.al.grown g2.out (fun g hg=>by have:=(hr2 g (Or.inr hg)).1;omega))
   have L2:=hide ((L1.out.below (below_al (Below.refl _ _))).grown g2.out (fun g hg=>by have:=(hr2 g (Or.inr hg)).1;omega))
   have F2:=hide (F1.out.al.grown g2.out (fun g hg=>by have:=(hr2 g (Or.inr hg)).1;omega))
   have kL2:=L2.out.cells
   clear o2 g2 at2 hr2 E1 Q1 L1 F1
   have HW:Hid (∀ w',Lq w' B s.2→Calls Tryz.prog 89 #[lv B,.string (mkB k)] w' fun e w''=>WP B w' (wantL k s.2) e w''):=fun w' p1=>wantL_any k p1
   unfold lv at HW
   go_wp2_with (go_at_call 89;refine Sto.out ?_)
   refine Sto.mk ?_
   rcases hw:wantL k s.2 with p|l2
   ·rw [hw] at HW
    have e2:Hid (R=.inl p):=by show _=_;rw [←FU.out];simp [nmT,hs,hw]
    refine (HW.out _ Q2.out).mono ?_
    rintro e w3 ⟨hb3,rfl⟩
    clear FU hs hw
    first|exact ⟨rfl,NmP.bad e2.out (F2.out.trans hb3)⟩|(go_wp2_with fail;exact ⟨rfl,NmP.bad e2.out (F2.out.trans hb3)⟩)
   rw [hw] at HW
   have N2:=hide (want_nx N1.out.1 HK.out hw)
   refine (HW.out _ Q2.out).mono ?_
   rintro e w3 ⟨hb3,rfl,hq3⟩
   have Q3:=hide (Q2.out.fb hb3 hq3 N2.out.1)
   have E4:=hide (E3.out.fb hb3 hBw)
   have L3:=hide (L2.out.fb hb3 hne0)
   have F3:=hide (F2.out.trans hb3)
   have kL3:=L3.out.cells
   clear hb3 hq3 Q2 E3 L2 F2 kL2 HW
   have HI:Hid (∀ w',Lq w' B l2→Calls Tryz.prog 33 #[lv B] w' fun e w''=>PE n B w' (M l2) e w''):=fun w' p1=>HM.out w' B l2 p1 (by have:=N1.out.2;have:=N2.out.2;have:=HF3.out;omega)
   unfold lv at HI
   go_wp2_with (go_at_call 33;refine Sto.out ?_)
   refine Sto.mk ?_
   rcases hm:M l2 with p|x
   ·rw [hm] at HI
    have e2:Hid (R=.inl p):=by show _=_;rw [←FU.out];simp [nmT,hs,hw,hm]
    refine (HI.out _ Q3.out).mono ?_
    rintro e w4 ⟨hb4,rfl⟩
    clear FU hs hw hm
    first|exact ⟨rfl,NmP.bad e2.out (F3.out.trans hb4)⟩|(go_wp2_with fail;exact ⟨rfl,NmP.bad e2.out (F3.out.trans hb4)⟩)
   rw [hm] at HI
   have N3:=hide (HG.out _ _ N2.out.1 hm)
   refine (HI.out _ Q3.out).mono ?_
   rintro e w4 ⟨hb4,q,rfl,hk4,hq4⟩
   have K4:=hide hk4
   obtain ⟨b1,b2,b3,b4,b5,b6,b7,b8,b9,b10,b11,b12,hqs⟩:=hk4.rd.shape
   subst hqs
   have Q4:=hide (Q3.out.fb hb4 hq4 N3.out.1)
   have hr4:=hide (E4.out.lt)
   have E5:=hide (E4.out.fb hb4 hBw)
   have L4:=hide (L3.out.fb hb4 hne0)
   have F4:=hide (F3.out.trans hb4)
   have kz4:=hb4.size
   have kz3:=F3.out.size
   have kz5:=L3.out.lt
   clear hb4 hq4 hk4 Q3 E4 L3 kL3 HI
   unfold ecl
   go_wp2_with (at_builtin;refine Sto.out ?_)
   refine Sto.mk ?_
   refine app_e13 rfl (.tmp 19) (.tmp 23) rfl (w.heap.size + 1) (.slice a' N c') N us rfl (row_len E5.out.al.row HX.out) w4.heap.size 1 rfl (ehd n x.1) ⟨.slice b1 b2 b3,.slice b4 b5 b6,.slice b7 b8 b9,.slice b10 b11 b12⟩ rfl rfl rfl rfl ((ex_new _ _ _).range) hN200 (by rw [World.size_alloc];have:=F4.out.size;omega) ?_
   intro av2 cv2 w5 o5 g5 at5
   have hr5:=E5.out.lt
   have E6:=hide (E5.out.al.push HX.out K4.out.al (by omega) (fun g hg=>(hr4.out g hg).2) g5.out o5.out at5.out)
   have Q5:=hide (Q4.out.al.grown g5.out (fun g hg=>by have:=(hr5 g (Or.inl hg)).1;omega))
   have L5:=hide ((L4.out.below (below_al (Below.refl _ _))).grown g5.out (fun g hg=>by have:=(hr5 g (Or.inl hg)).1;omega))
   have F5:=hide (F4.out.al.grown g5.out (fun g hg=>by have:=(hr5 g (Or.inl hg)).1;omega))
   have kL5:=L5.out.cells
   clear o5 g5 at5 hr5 hr4 E5 Q4 L4 F4 K4
   have hhx:=has_nx (m:=[125]) N3.out.1 (by simp)
   have HH:Hid (∀ w',Lq w' B x.2→Calls Tryz.prog 72 #[lv B,.string ⟨#[125]⟩] w' fun e w''=>e=.returned (.bool (hasL [125] x.2).1)∧TQ w'' B (hasL [125] x.2).2∧FB B w' w''):=fun w' hq=>hasL_any [125] hq
   unfold lv at HH
   go_wp2_with (go_at_call 72;refine Sto.out ?_)
   refine Sto.mk ?_
   rcases hh:(hasL [125] x.2).1 with _|_
   rotate_left
   ·rw [hh] at HH
    have N6:=hide (hhx.1 hh).1
    have e2:Hid (R=.inr (ns++[s.1],xs++[x.1],(hasL [125] x.2).2)):=by show _=_;rw [←FU.out];simp [nmT,hs,hw,hm,hh]
    clear FU hs hw hm hh hhx
    refine (HH.out _ Q5.out).mono ?_
    rintro e w6 ⟨rfl,hq6,hb6⟩
    have Q6:=hide (Q5.out.fb hb6 hq6 N6.out)
    have E7:=hide (E6.out.fb hb6 hBw)
    have F6:=hide (F5.out.trans hb6)
    clear hb6 hq6 Q5 E6 L5 F5 kL5
    go_wp2_with fail
    go_ret2
    refine NmP.good (y:=(ns++[s.1],xs++[x.1],(hasL [125] x.2).2)) e2.out F6.out (xs:=us++(ecl (ehd n x.1) ⟨.slice b1 b2 b3,.slice b4 b5 b6,.slice b7 b8 b9,.slice b10 b11 b12⟩).toList) ?_ Q6.out.tq
    show E2 _ _ _ _ _ ((ns++[s.1]).map mkB) _ _
    rw [List.map_append]
    exact E7.out
   rw [hh,hhx.2 hh] at HH
   have N6:=hide N3.out.1
   have hh2:=hhx.2 hh
   refine (HH.out _ Q5.out).mono ?_
   rintro e w6 ⟨rfl,hq6,hb6⟩
   have Q6:=hide (Q5.out.fb hb6 hq6 N6.out)
   have E7:=hide (E6.out.fb hb6 hBw)
   have L6:=hide (L5.out.fb hb6 hne0)
   have F6:=hide (F5.out.trans hb6)
   have kL6:=L6.out.cells
   clear hb6 hq6 Q5 E6 L5 F5 kL5 HH
   have HC:Hid (∀ w',Lq w' B x.2→Calls Tryz.prog 89 #[lv B,.string ⟨#[44]⟩] w' fun e w''=>WP B w' (wantL [44] x.2) e w''):=fun w' p1=>wantL_any [44] p1
   unfold lv at HC
   go_wp2_with (go_at_call 89;refine Sto.out ?_)
   refine Sto.mk ?_
   rcases hc:wantL [44] x.2 with p|l5
   ·rw [hc] at HC
    have e2:Hid (R=.inl p):=by show _=_;rw [←FU.out];simp [nmT,hs,hw,hm,hh,hh2,hc]
    refine (HC.out _ Q6.out).mono ?_
    rintro e w7 ⟨hb7,rfl⟩
    clear FU hs hw hm hh hhx hh2 hc
    first|exact ⟨rfl,NmP.bad e2.out (F6.out.trans hb7)⟩|(go_wp2_with fail;exact ⟨rfl,NmP.bad e2.out (F6.out.trans hb7)⟩)
   rw [hc] at HC
   have N7:=hide (want_nx N3.out.1 (by simp) hc)
   have e2:Hid (nmT k M g (ns++[s.1]) (xs++[x.1]) l5=R):=by show _=_;rw [←FU.out];simp [nmT,hs,hw,hm,hh,hh2,hc]
   clear FU hs hw hm hh hhx hh2 hc
   refine (HC.out _ Q6.out).mono ?_
   rintro e w7 ⟨hb7,rfl,hq7⟩
   go_wp2_with fail
   have z1:=N1.out.2
   have z2:=N2.out.2
   have z3:=N3.out.2
   have z7:=N7.out.2
   have zg:=hG1.out
   refine ⟨⟨ns++[s.1],xs++[x.1],l5,⟨g,by omega,e2.out⟩,Q6.out.fb hb7 hq7 N7.out.1,F6.out.trans hb7,⟨us++(ecl (ehd n x.1) ⟨.slice b1 b2 b3,.slice b4 b5 b6,.slice b7 b8 b9,.slice b10 b11 b12⟩).toList,?_⟩,L6.out.fb hb7 hne0,?_,?_,?_⟩,?_⟩
   ·rw [List.map_append]
    exact E7.out.fb hb7 hBw
   ·rw [List.length_append,List.length_singleton,hN];omega
   ·rw [List.length_append,List.length_append,List.length_singleton,List.length_singleton,hN,HX.out]
   ·have:=HF3.out;omega
   ·rw [Hlen.out,hq7.lenB];omega
 ·rw [hb] at hh
  have e2:Hid (R=.inr ([],[],(hasL [125] l).2)):=by show _=_;rw [←HR.out];simp [namedT,hb]
  clear HR hb hnx
  go_enter Tryz.func165, Tryz.ntmps165
  go_wp2_with (first|(go_at_call 72;refine (hh.out _ H.out.al).mono ?_;rintro e w3 ⟨rfl,hq3,hb3⟩;have kL:=(ZL.out.fb hb3 hne0).cells;have kl:=(ZL.out.fb hb3 hne0).lt))
  go_ret2
  exact NmP.good (xs:=[]) e2.out ((FB.of (below_al (Below.refl _ _))).trans hb3) (E2.nil _ _ _) hq3
end Lx
end Go.Proofs.YtgicnopppgnjjaaGreatDoor
namespace Go.Proofs.YtgicnopppgnjjaaGreatDoor
namespace Lx
open Go.RowKit
theorem own_nl2 {W W':World} {L:Nat} {v:Value} {l:List ByteArray} (ho:OwnS W L v l) (hb:∀ k,L≤k→k<W.heap.size→W'.heap[k]?=W.heap[k]?):NL W' v l:=by
 have hr:=World.ownsRow.lt ho
 have h0:=own_nl ho
 rcases id ho.2 with ⟨rfl,e⟩|⟨g,cap,cur,rfl,k1,k2,k3,k4,k5,k6⟩
 ·exact Or.inl ⟨rfl,List.eq_nil_of_length_eq_zero e⟩
 ·have hg:=hr g rfl
  have hW:=hb g hg.1 hg.2
  rcases h0 with ⟨q,_⟩|⟨b,o,c,sp,q,h1,h2,h3,hc⟩
  ·cases q
  ·have q':=Value.slice.inj q
   obtain ⟨q1,_,q2⟩:=q'
   cases q1
   subst q2
   refine Or.inr ⟨g,0,_,none,rfl,h1,h2,fun _=>⟨rfl,(Array.getElem?_eq_some_iff.1 (hW.trans k2)).1⟩,fun i hi=>?_⟩
   exact (World.cell?_of_block (w:=W) hW).trans (hc i hi)
theorem rd_vz (W:World):RD 1 W vz (.slice none 0 0) (.slice none 0 0):=⟨Or.inl ⟨rfl,rfl⟩,Or.inl ⟨rfl,rfl⟩⟩
theorem ke_row {n L s:Nat} {W:World} {nv v:Value} {nms:List ByteArray} {l:List (ET n)} {xs:List Value} (h:E2 n L W nv v nms l xs) (op:Int) (hs:s≤L) (hW:s≤W.heap.size):KE (n + 1) W (⟨op,nilB,nms,1,vz⟩,l) ⟨nv,v,.slice none 0 0,.slice none 0 0⟩ s W.heap.size :=
 ⟨hW,Nat.le_refl _,fun W' h'=>⟨own_nl2 h.nrow fun k a b=>h' k (by omega) b,rd_vz W',h.er.el fun k a b=>h' k (by omega) b⟩⟩
set_option maxHeartbeats 2000000 in
set_option maxRecDepth 100000 in
theorem branches_any {n f:Nat} {M:List Tk→Sum Int (ET n×List Tk)} (hM:MpOk n 33 M f) (hG:Gd M) (op:Int) {w:World} {B:Nat} {l:List Tk} (h:Lq w B l) (hl:l.length≤f):Calls Tryz.prog 127 #[lv B,.int .i64 op] w fun e w'=>PE (n + 1) B w (brT M op l) e w':=by
 have hB4:=h.tq.sz
 have H:=hide h
 have ZL:=hide (lb_new w B)
 have Z0:=hide (ze_new (w.alloc (.cells #[.func (.func 123) #[] #[.pointer (some ⟨B,0,none⟩)],.func (.func 124) #[] #[.pointer (some ⟨B,0,none⟩)]] 104)))
 rw [World.size_alloc] at Z0
 have hn:Hid (∀ w',Below w.heap.size w w'→Calls Tryz.prog 165 #[lv B,.string ⟨#[61]⟩,.func (.func 33) #[] #[]] w' fun e w''=>NmP n B w' (namedT [61] M l) e w''):=fun w' hb=>named_any hM hG [61] (by simp) (h.below hb) hl
 obtain ⟨R,hR⟩:∃ R,brT M op l=R:=⟨_,rfl⟩
 rw [hR]
 have HR:=hide hR
 have hne:w.heap.size + 1≠B:=by omega
 clear hR h hM hG
 unfold lv at hn ⊢
 go_enter Tryz.func127, Tryz.ntmps127
 go_wp2_with (go_at_call 165;refine Sto.out ?_)
 refine Sto.mk ?_
 refine (hn.out _ (below_al (below_al (Below.refl _ _)))).mono ?_
 rcases hx:namedT [61] M l with p|y
 ·rintro e w3 ⟨hb3,rfl⟩
  have e2:Hid (R=.inl p):=by show _=_;rw [←HR.out];simp [brT,hx]
  clear HR hx
  first|exact ⟨rfl,PE.bad e2.out ((FB.of (below_al (below_al (Below.refl _ _)))).trans hb3)⟩|(go_wp2_with fail;exact ⟨rfl,PE.bad e2.out ((FB.of (below_al (below_al (Below.refl _ _)))).trans hb3)⟩)
 ·rintro e w3 ⟨hb3,nv,v,us,rfl,hE,hq3⟩
  have e2:Hid (R=.inr ((⟨op,nilB,y.1.map mkB,1,vz⟩,y.2.1),y.2.2)):=by show _=_;rw [←HR.out];simp [brT,hx]
  obtain ⟨a,c,a',c',e3,e4⟩:=hE.shape
  rw [e3,e4] at hE ⊢
  have HE:=hide hE
  have hz3:=hb3.size
  simp only [World.size_alloc] at hz3
  have kz:=(Z0.out.fb hb3 hne).cells
  have kf:=(Z0.out.fb hb3 hne).frz
  have kl:=(Z0.out.fb hb3 hne).lt
  have HB3:=hide hb3
  have HQ3:=hide hq3
  clear HR hx e3 e4 hE hb3 hq3
  go_wp2_with fail
  refine bodyPost_ret (v:=.agg (ecl (⟨op,nilB,y.1.map mkB,1,vz⟩:Eh) ⟨.slice a (y.1.map mkB).length c,.slice a' y.2.1.length c',.slice none 0 0,.slice none 0 0⟩)) (by simp [results,Tryz.results127,go_sem,ecl,vz,vH,vhd,nilB, *]) rfl (PE.good (n:=n + 1) (x:=((⟨op,nilB,y.1.map mkB,1,vz⟩,y.2.1),y.2.2)) e2.out ?_ ?_ ?_)
  ·(iterate 13 (refine FB.set ?_ (by omega)))
   exact (FB.of (below_al (below_al (Below.refl _ _)))).trans HB3.out
  ·refine KE.fin (s:=w.heap.size + 2) (e:=w3.heap.size) ?_ (by omega)
   (iterate 13 (refine KE.set ?_ (by omega)))
   refine ke_row HE.out op ?_ (by omega)
   simp only [World.size_alloc];omega
  ·(iterate 13 (refine TQ.set ?_ (by omega)))
   exact HQ3.out
end Lx
end Go.Proofs.YtgicnopppgnjjaaGreatDoor
namespace Go.Proofs.YtgicnopppgnjjaaGreatDoor
namespace Lx
open Go.RowKit
structure SA (w:World) (B:Nat) (r:List Tk) (i:Nat) (t:Tk) (W:World):Prop where
 tq:TQ W B r
 gp:Gp W
 lo:15≤B
 lb:LB W w.heap.size B
 ex:Ex W (w.heap.size + 1) ze zs
 tb:Tb W i t
 fb:FB B w W
theorem SA.after {w W W1:World} {B i:Nat} {t:Tk} {r r':List Tk} (h:SA w B r i t W) (hB:B + 4≤w.heap.size) (hi:w.heap.size≤i) (k:FB B W W1) (hq:TQ W1 B r'):SA w B r' i t W1 :=
 ⟨hq,h.gp.fb k h.lo,h.lo,h.lb.fb k (by omega),h.ex.fb k (by omega),h.tb.fb k (by omega),h.fb.trans k⟩
theorem SA.below {w W W1:World} {B i:Nat} {t:Tk} {r:List Tk} (h:SA w B r i t W) (hB:B + 4≤w.heap.size) (hi:w.heap.size≤i) (k:Below W.heap.size W W1):SA w B r i t W1:=h.after hB hi (FB.of k) (h.tq.below k)
theorem SA.lq {w W:World} {B i:Nat} {t:Tk} {r:List Tk} (h:SA w B r i t W) (hk:Okl r):Lq W B r:=⟨h.tq,hk,h.gp,h.lo⟩
theorem PE.upp {n B:Nat} {w w':World} {R:Sum Int (ET (n + 1)×List Tk)} {x:ET n×List Tk} {q:Sl} (e:R=.inr (upE n x.1,x.2)) (hb:FB B w w') (hk:KE n w' x.1 q w.heap.size w'.heap.size) (ht:TQ w' B x.2):PE (n + 1) B w R (.returned (.agg (ecl (ehd n x.1) q))) w':=by
 rw [←ehd_up n x.1]
 exact PE.good (x:=(upE n x.1,x.2)) e hb hk.up ht
theorem ke_one {m s:Nat} {W:World} {x:ET m} {q:Sl} (op:Int) (h:KE m W x q s W.heap.size):KE (m + 1) (W.alloc (.cells (ecl (ehd m x) q) 33)) ((lf op,[x]):ET (m + 1)) ⟨.slice none 0 0,.slice (some ⟨W.heap.size,0,none⟩) 1 1,.slice none 0 0,.slice none 0 0⟩ s (W.heap.size + 1):=by
 have hs:=h.1
 refine ⟨by omega,by simp,fun W' h'=>⟨Or.inl ⟨rfl,rfl⟩,rd_vz W',Or.inr ⟨W.heap.size,0,1,none,rfl,Nat.le_refl _,by decide,fun _=>?_,fun i hi=>?_⟩⟩⟩
 ·have hb:=(h' W.heap.size (by omega) (by omega)).trans (show _=some (Obj.cells (ecl (ehd m x) q) 33 (0,0)) from Array.getElem?_push_size)
  exact ⟨rfl,(Array.getElem?_eq_some_iff.1 hb).1⟩
 ·have hb:=(h' W.heap.size (by omega) (by omega)).trans (show _=some (Obj.cells (ecl (ehd m x) q) 33 (0,0)) from Array.getElem?_push_size)
  have hi0:i=0:=by simp at hi;omega
  subst hi0
  refine ⟨q,?_,?_⟩
  ·have:=(show Ex W' W.heap.size (ehd m x) q from ⟨hb⟩).range
   simpa using this
  ·refine h.2.2 W' fun k a b=>(h' k a (by omega)).trans ?_
   exact Below.heap_alloc _ _ _ b
theorem ke_nil {m s:Nat} {W:World} (h:Eh) (hn:h.names=[]) (hv:∀ W',RD h.vn W' h.val (.slice none 0 0) (.slice none 0 0)) (hs:s≤W.heap.size):KE (m + 1) W ((h,[]):ET (m + 1)) zs s W.heap.size :=
 ⟨hs,Nat.le_refl _,fun W' _=>⟨Or.inl ⟨rfl,hn⟩,hv W',Or.inl ⟨rfl,rfl⟩⟩⟩
theorem vhd1 (v:VT 1):vhd 1 v=v.1:=rfl
theorem cn_rd {l:List Tk} {v:VT 1×List Tk} (h:cnT l=.inr v) (W:World):RD 1 W v.1 (.slice none 0 0) (.slice none 0 0):=by
 cases l with
 | nil=>cases h
 | cons t r =>
  simp only [cnT] at h
  repeat' split at h
  all_goals first|(cases h;exact ⟨Or.inl ⟨rfl,rfl⟩,Or.inl ⟨rfl,rfl⟩⟩)|cases h
set_option maxHeartbeats 4000000 in
set_option maxRecDepth 100000 in
theorem step_any {m f:Nat} {M:List Tk→Sum Int (ET m×List Tk)} (hP:ParseOk) (hM:MpOk m 33 M f) (hG:Gd M) {w:World} {B:Nat} {l:List Tk} (h:Lq w B l) (hl:l.length≤f + 1):Calls Tryz.prog 71 #[lv B] w fun e w'=>PE (m + 1) B w (stpT M l) e w':=by
 have hB4:=h.tq.sz
 obtain ⟨t,r,rfl⟩:=h.ok.cons
 have hl1:Hid (r.length≤f):=by show _≤_;simpa using hl
 have hok:Hid (ownT t≠[]→Okl r):=fun e=>h.ok.tail (own_w e)
 have hsh:Hid (∀ t' r',r=t' :: r'→Okl r→t'.s.length≤70000):=fun t' r' e k=>by subst e;exact k.short
 have H:=hide h
 have HM:=hide hM
 have HG:=hide hG
 have HPar:=hide hP
 have ZL:=hide (lb_new w B)
 have Z0:=hide (ze_new (w.alloc (.cells #[.func (.func 123) #[] #[.pointer (some ⟨B,0,none⟩)],.func (.func 124) #[] #[.pointer (some ⟨B,0,none⟩)]] 104)))
 rw [World.size_alloc] at Z0
 have hx:Hid (∀ w',Below w.heap.size w w'→Calls Tryz.prog 124 #[.pointer (some ⟨B,0,none⟩)] w' fun e w''=>e=.returned (tkV t)∧TQ w'' B r∧FB B w' w''):=fun w' hb=>take_any (H.out.tq.below hb)
 have ho:=hide (own_any t)
 unfold tkV at hx ho
 have hne:w.heap.size + 1≠B:=by omega
 have hne0:w.heap.size≠B:=by omega
 obtain ⟨R,hR⟩:∃ R,stpT M (t :: r)=R:=⟨_,rfl⟩
 have HR:=hide hR
 rw [hR]
 obtain ⟨S,hS⟩:∃ S,mkB (ownT t)=S:=⟨_,rfl⟩
 rw [hS] at ho
 clear hR h hl hM hG hP
 unfold lv
 go_enter Tryz.func71, Tryz.ntmps71
 go_wp2_with (go_at_call 124;refine Sto.out ?_)
 refine Sto.mk ((hx.out _ (below_al (below_al (Below.refl _ _)))).mono ?_)
 rintro e w3 ⟨rfl,hq3,hb3⟩
 have F3:=hide ((FB.of (below_al (below_al (Below.refl _ _)))).trans hb3)
 have hz3:=hb3.size
 simp only [World.size_alloc] at hz3
 have P3:Hid (SA w B r w3.heap.size t (w3.alloc (.cells #[.int .i64 t.w,.string (mkB t.s),.int .i64 t.p] 110))):=⟨hq3.al,(H.out.gp.fb F3.out H.out.lo).below (below_al (Below.refl _ _)),H.out.lo,(((ZL.out.below (below_al (Below.refl _ _))).fb hb3 hne0)).below (below_al (Below.refl _ _)),(Z0.out.fb hb3 hne).below (below_al (Below.refl _ _)),tb_new w3 t,F3.out.al⟩
 have hi3:w.heap.size≤w3.heap.size:=by omega
 clear hq3 hb3 F3 hx ZL Z0
 go_wp2_with (go_at_call 88;refine Sto.out ?_)
 refine Sto.mk ((ho.out _).mono ?_)
 rintro e w4 ⟨rfl,hb4⟩
 have S4:=hide (P3.out.below hB4 hi3 hb4)
 clear hb4 P3 ho
 have kL:=S4.out.lb.cells
 have hu:stpT M (t :: r)=(if ownT t=[40] then (match clT M [41] r with
   | .inl p=>.inl p
   | .inr x=>.inr (upE m x.1,x.2))
  else if ownT t=[91] then (match clT M [93] r with
   | .inl p=>.inl p
   | .inr x=>.inr ((lf 4,[x.1]),x.2))
  else if ownT t=[46] then gtT 2 r
  else if ownT t=[116,97,103] then gtT 5 r
  else if ownT t=[123] then brT M 3 r
  else if ownT t=[99,97,115,101] then (match wantL [123] r with
   | .inl p=>.inl p
   | .inr l=>brT M 6 l)
  else if ownT t=[99,111,110,115,116] then (match cnT r with
   | .inl p=>.inl p
   | .inr v=>.inr ((⟨7,nilB,[],1,v.1⟩,[]),v.2))
  else match plO (ownT t) with
   | some op=>.inr ((lf op,[]),r)
   | none=>.inl t.p):=rfl
 rw [HR.out] at hu
 by_cases n0:ownT t=[40]
 ·have hS':S=⟨#[40]⟩:=by rw [←hS,n0];rfl
  have OK:=hide (hok.out (by rw [n0];simp))
  rw [if_pos n0] at hu
  have HU:=hide hu
  subst hS'
  clear hS hu n0
  have CL:Hid (∀ W,Lq W B r→Calls Tryz.prog 125 #[lv B,.string ⟨#[41]⟩] W fun e w'=>PE m B W (clT M [41] r) e w'):=fun W q=>closed_any HM.out HG.out [41] q hl1.out
  unfold lv at CL
  go_wp2_with (go_at_call 125;refine Sto.out ?_)
  refine Sto.mk ?_
  refine (CL.out _ (S4.out.lq OK.out)).mono ?_
  rcases hc:clT M [41] r with p|x
  ·rintro e w5 ⟨hb5,rfl⟩
   have e2:Hid (R=.inl p):=by show _=_;rw [HU.out,hc]
   clear hc HU
   first|exact ⟨rfl,PE.bad e2.out (S4.out.fb.trans hb5)⟩|(go_wp2_with fail;exact ⟨rfl,PE.bad e2.out (S4.out.fb.trans hb5)⟩)
  rintro e w5 ⟨hb5,q,rfl,hk5,hq5⟩
  obtain ⟨a,mm,c,a',m',c',a2,m2,c2,a3,m3,c3,hqs⟩:=hk5.rd.shape
  subst hqs
  have K5:=hide hk5
  have hz4:=S4.out.fb.size
  have hz5:=hb5.size
  have hlt4:=S4.out.ex.lt
  have S5:=hide (S4.out.after hB4 hi3 hb5 hq5)
  clear hb5 hq5 hk5 kL
  have e2:Hid (R=.inr (upE m x.1,x.2)):=by show _=_;rw [HU.out,hc]
  clear hc HU
  have kz:=S5.out.ex.cells
  have kf:=S5.out.ex.frz
  have kl:=S5.out.ex.lt
  unfold ecl
  go_wp2_with fail
  refine bodyPost_ret (v:=.agg (ecl (ehd m x.1) ⟨.slice a mm c,.slice a' m' c',.slice a2 m2 c2,.slice a3 m3 c3⟩)) (by simp [results,Tryz.results71,go_sem,ecl,lf,zs,vz,vH,vhd,nilB, *]) rfl (PE.upp (x:=x) e2.out ?_ ?_ ?_)
  ·(iterate 13 (refine FB.set ?_ (by omega)))
   exact S5.out.fb
  ·refine KE.fin (s:=w4.heap.size) (e:=w5.heap.size) ?_ (by omega)
   (iterate 13 (refine KE.set ?_ (by omega)))
   exact K5.out
  ·(iterate 13 (refine TQ.set ?_ (by omega)))
   exact S5.out.tq
 rw [if_neg n0] at hu
 have m0:=tl_lit (m:=[40]) (fun q=>n0 (mkB_inj (hS.trans q)))
 by_cases n1:ownT t=[91]
 ·have hS':S=⟨#[91]⟩:=by rw [←hS,n1];rfl
  have OK:=hide (hok.out (by rw [n1];simp))
  rw [if_pos n1] at hu
  have HU:=hide hu
  subst hS'
  clear hS hu n1 n0
  have CL:Hid (∀ W,Lq W B r→Calls Tryz.prog 125 #[lv B,.string ⟨#[93]⟩] W fun e w'=>PE m B W (clT M [93] r) e w'):=fun W q=>closed_any HM.out HG.out [93] q hl1.out
  unfold lv at CL
  go_wp2_with (go_at_call 125;refine Sto.out ?_)
  refine Sto.mk ?_
  refine (CL.out _ (S4.out.lq OK.out)).mono ?_
  rcases hc:clT M [93] r with p|x
  ·rintro e w5 ⟨hb5,rfl⟩
   have e2:Hid (R=.inl p):=by show _=_;rw [HU.out,hc]
   clear hc HU
   first|exact ⟨rfl,PE.bad e2.out (S4.out.fb.trans hb5)⟩|(go_wp2_with fail;exact ⟨rfl,PE.bad e2.out (S4.out.fb.trans hb5)⟩)
  rintro e w5 ⟨hb5,q,rfl,hk5,hq5⟩
  obtain ⟨a,mm,c,a',m',c',a2,m2,c2,a3,m3,c3,hqs⟩:=hk5.rd.shape
  subst hqs
  have K5:=hide hk5
  have hz4:=S4.out.fb.size
  have hz5:=hb5.size
  have hlt4:=S4.out.ex.lt
  have S5:=hide (S4.out.after hB4 hi3 hb5 hq5)
  clear hb5 hq5 hk5 kL
  have e2:Hid (R=.inr ((lf 4,[x.1]),x.2)):=by show _=_;rw [HU.out,hc]
  clear hc HU
  have kz:=S5.out.ex.cells
  have kf:=S5.out.ex.frz
  have kl:=S5.out.ex.lt
  have key:Hid (∀ W:World,W.heap.size=w5.heap.size→KE m W x.1 ⟨.slice a mm c,.slice a' m' c',.slice a2 m2 c2,.slice a3 m3 c3⟩ w4.heap.size w5.heap.size→KE (m + 1) (W.alloc (.cells (ecl (ehd m x.1) ⟨.slice a mm c,.slice a' m' c',.slice a2 m2 c2,.slice a3 m3 c3⟩) 33)) ((lf 4,[x.1]):ET (m + 1)) ⟨.slice none 0 0,.slice (some ⟨w5.heap.size,0,none⟩) 1 1,.slice none 0 0,.slice none 0 0⟩ w.heap.size (W.alloc (.cells (ecl (ehd m x.1) ⟨.slice a mm c,.slice a' m' c',.slice a2 m2 c2,.slice a3 m3 c3⟩) 33)).heap.size):=fun W e k=>by
   rw [←e] at k ⊢
   exact KE.fin (ke_one 4 k) (by omega)
  unfold ecl
  go_wp2_with fail
  refine bodyPost_ret (v:=.agg (ecl (lf 4) ⟨.slice none 0 0,.slice (some ⟨w5.heap.size,0,none⟩) 1 1,.slice none 0 0,.slice none 0 0⟩)) (by simp [results,Tryz.results71,go_sem,ecl,lf,zs,vz,vH,vhd,nilB, *]) rfl (PE.good (n:=m + 1) (x:=((lf 4,[x.1]),x.2)) e2.out ?_ ?_ ?_)
  ·refine FB.al ?_
   (iterate 13 (refine FB.set ?_ (by omega)))
   exact S5.out.fb
  ·refine key.out _ (by simp) ?_
   (iterate 13 (refine KE.set ?_ (by omega)))
   exact K5.out
  ·refine TQ.al ?_
   (iterate 13 (refine TQ.set ?_ (by omega)))
   exact S5.out.tq
 rw [if_neg n1] at hu
 have m1:=tl_lit (m:=[91]) (fun q=>n1 (mkB_inj (hS.trans q)))
 by_cases n2:ownT t=[46]
 ·have hS':S=⟨#[46]⟩:=by rw [←hS,n2];rfl
  have OK:=hide (hok.out (by rw [n2];simp))
  rw [if_pos n2] at hu
  have HU:=hide hu
  subst hS'
  clear hS hu n2 n0 n1
  have CL:Hid (∀ W,Lq W B r→Calls Tryz.prog 126 #[lv B,.slice none 0 0] W fun e w'=>NP B W (nameL [] r) e w'):=fun W q=>nameL_any [] q (NL.nil W) (fun _ _ _ _ _ h=>by cases h)
  unfold lv at CL
  go_wp2_with (go_at_call 126;refine Sto.out ?_)
  refine Sto.mk ?_
  refine (CL.out _ (S4.out.lq OK.out)).mono ?_
  rcases hc:nameL [] r with p|x
  ·rintro e w5 ⟨hb5,rfl⟩
   have e2:Hid (R=.inl p):=by show _=_;rw [HU.out];unfold gtT;rw [hc]
   clear hc HU
   first|exact ⟨rfl,PE.bad e2.out (S4.out.fb.trans hb5)⟩|(go_wp2_with fail;exact ⟨rfl,PE.bad e2.out (S4.out.fb.trans hb5)⟩)
  rintro e w5 ⟨hb5,rfl,hq5⟩
  have e2:Hid (R=.inr ((⟨2,mkB x.1,[],1,vz⟩,[]),x.2)):=by show _=_;rw [HU.out];unfold gtT;rw [hc]
  have hz4:=S4.out.fb.size
  have hz5:=hb5.size
  have S5:=hide (S4.out.after hB4 hi3 hb5 hq5)
  clear hb5 hq5 kL hc HU
  have kz:=S5.out.ex.cells
  have kf:=S5.out.ex.frz
  have kl:=S5.out.ex.lt
  go_wp2_with fail
  refine bodyPost_ret (v:=.agg (ecl (⟨2,mkB x.1,[],1,vz⟩:Eh) zs)) (by simp [results,Tryz.results71,go_sem,ecl,lf,zs,vz,vH,vhd,nilB, *]) rfl (PE.good (n:=m + 1) (x:=((⟨2,mkB x.1,[],1,vz⟩,[]),x.2)) e2.out ?_ ?_ ?_)
  ·(iterate 13 (refine FB.set ?_ (by omega)))
   exact S5.out.fb
  ·exact ke_nil _ rfl rd_vz (by simp only [World.size_setCell];omega)
  ·(iterate 13 (refine TQ.set ?_ (by omega)))
   exact S5.out.tq
 rw [if_neg n2] at hu
 have m2:=tl_lit (m:=[46]) (fun q=>n2 (mkB_inj (hS.trans q)))
 by_cases n3:ownT t=[116,97,103]
 ·have hS':S=⟨#[116,97,103]⟩:=by rw [←hS,n3];rfl
  have OK:=hide (hok.out (by rw [n3];simp))
  rw [if_pos n3] at hu
  have HU:=hide hu
  subst hS'
  clear hS hu n3 n0 n1 n2
  have CL:Hid (∀ W,Lq W B r→Calls Tryz.prog 126 #[lv B,.slice none 0 0] W fun e w'=>NP B W (nameL [] r) e w'):=fun W q=>nameL_any [] q (NL.nil W) (fun _ _ _ _ _ h=>by cases h)
  unfold lv at CL
  go_wp2_with (go_at_call 126;refine Sto.out ?_)
  refine Sto.mk ?_
  refine (CL.out _ (S4.out.lq OK.out)).mono ?_
  rcases hc:nameL [] r with p|x
  ·rintro e w5 ⟨hb5,rfl⟩
   have e2:Hid (R=.inl p):=by show _=_;rw [HU.out];unfold gtT;rw [hc]
   clear hc HU
   first|exact ⟨rfl,PE.bad e2.out (S4.out.fb.trans hb5)⟩|(go_wp2_with fail;exact ⟨rfl,PE.bad e2.out (S4.out.fb.trans hb5)⟩)
  rintro e w5 ⟨hb5,rfl,hq5⟩
  have e2:Hid (R=.inr ((⟨5,mkB x.1,[],1,vz⟩,[]),x.2)):=by show _=_;rw [HU.out];unfold gtT;rw [hc]
  have hz4:=S4.out.fb.size
  have hz5:=hb5.size
  have S5:=hide (S4.out.after hB4 hi3 hb5 hq5)
  clear hb5 hq5 kL hc HU
  have kz:=S5.out.ex.cells
  have kf:=S5.out.ex.frz
  have kl:=S5.out.ex.lt
  go_wp2_with fail
  refine bodyPost_ret (v:=.agg (ecl (⟨5,mkB x.1,[],1,vz⟩:Eh) zs)) (by simp [results,Tryz.results71,go_sem,ecl,lf,zs,vz,vH,vhd,nilB, *]) rfl (PE.good (n:=m + 1) (x:=((⟨5,mkB x.1,[],1,vz⟩,[]),x.2)) e2.out ?_ ?_ ?_)
  ·(iterate 13 (refine FB.set ?_ (by omega)))
   exact S5.out.fb
  ·exact ke_nil _ rfl rd_vz (by simp only [World.size_setCell];omega)
  ·(iterate 13 (refine TQ.set ?_ (by omega)))
   exact S5.out.tq
 rw [if_neg n3] at hu
 have m3:=tl_lit (m:=[116,97,103]) (fun q=>n3 (mkB_inj (hS.trans q)))
 by_cases n4:ownT t=[123]
 ·have hS':S=⟨#[123]⟩:=by rw [←hS,n4];rfl
  have OK:=hide (hok.out (by rw [n4];simp))
  rw [if_pos n4] at hu
  have HU:=hide hu
  subst hS'
  clear hS hu n4 n0 n1 n2 n3
  have CL:Hid (∀ W,Lq W B r→Calls Tryz.prog 127 #[lv B,.int .i64 3] W fun e w'=>PE (m + 1) B W (brT M 3 r) e w'):=fun W q=>branches_any HM.out HG.out 3 q hl1.out
  unfold lv at CL
  go_wp2_with (go_at_call 127;refine Sto.out ?_)
  refine Sto.mk ?_
  refine (CL.out _ (S4.out.lq OK.out)).mono ?_
  rcases hc:brT M 3 r with p|x
  ·rintro e w5 ⟨hb5,rfl⟩
   have e2:Hid (R=.inl p):=by show _=_;rw [HU.out,hc]
   clear hc HU
   first|exact ⟨rfl,PE.bad e2.out (S4.out.fb.trans hb5)⟩|(go_wp2_with fail;exact ⟨rfl,PE.bad e2.out (S4.out.fb.trans hb5)⟩)
  rintro e w5 ⟨hb5,q,rfl,hk5,hq5⟩
  have e2:Hid (R=.inr x):=by show _=_;rw [HU.out,hc]
  obtain ⟨a,mm,c,a',m',c',a2,m2,c2,a3,m3,c3,hqs⟩:=hk5.rd.shape
  subst hqs
  have K5:=hide hk5
  have hz4:=S4.out.fb.size
  have hz5:=hb5.size
  have hlt4:=S4.out.ex.lt
  have S5:=hide (S4.out.after hB4 hi3 hb5 hq5)
  clear hb5 hq5 hk5 kL hc HU
  have kz:=S5.out.ex.cells
  have kf:=S5.out.ex.frz
  have kl:=S5.out.ex.lt
  unfold ecl
  go_wp2_with fail
  refine bodyPost_ret (v:=.agg (ecl (ehd (m + 1) x.1) ⟨.slice a mm c,.slice a' m' c',.slice a2 m2 c2,.slice a3 m3 c3⟩)) (by simp [results,Tryz.results71,go_sem,ecl,lf,zs,vz,vH,vhd,nilB, *]) rfl (PE.good (n:=m + 1) (x:=x) e2.out ?_ ?_ ?_)
  ·(iterate 13 (refine FB.set ?_ (by omega)))
   exact S5.out.fb
  ·refine KE.fin (s:=w4.heap.size) (e:=w5.heap.size) ?_ (by omega)
   (iterate 13 (refine KE.set ?_ (by omega)))
   exact K5.out
  ·(iterate 13 (refine TQ.set ?_ (by omega)))
   exact S5.out.tq
 rw [if_neg n4] at hu
 have m4:=tl_lit (m:=[123]) (fun q=>n4 (mkB_inj (hS.trans q)))
 by_cases n5:ownT t=[99,97,115,101]
 ·have hS':S=⟨#[99,97,115,101]⟩:=by rw [←hS,n5];rfl
  have OK:=hide (hok.out (by rw [n5];simp))
  rw [if_pos n5] at hu
  have HU:=hide hu
  subst hS'
  clear hS hu n5 n0 n1 n2 n3 n4
  have CW:Hid (∀ W,Lq W B r→Calls Tryz.prog 89 #[lv B,.string ⟨#[123]⟩] W fun e w'=>WP B W (wantL [123] r) e w'):=fun W q=>wantL_any [123] q
  unfold lv at CW
  go_wp2_with (go_at_call 89;refine Sto.out ?_)
  refine Sto.mk ?_
  refine (CW.out _ (S4.out.lq OK.out)).mono ?_
  rcases hwn:wantL [123] r with p|r2
  ·rintro e w5 ⟨hb5,rfl⟩
   have e2:Hid (R=.inl p):=by show _=_;rw [HU.out,hwn]
   clear hwn HU
   first|exact ⟨rfl,PE.bad e2.out (S4.out.fb.trans hb5)⟩|(go_wp2_with fail;exact ⟨rfl,PE.bad e2.out (S4.out.fb.trans hb5)⟩)
  rintro e w4' ⟨hb5,rfl,hq5⟩
  have N2:=hide (want_nx OK.out (by simp) hwn)
  have S4':=hide (S4.out.after hB4 hi3 hb5 hq5)
  clear hb5 hq5 kL
  have kL:=S4'.out.lb.cells
  have CL:Hid (∀ W,Lq W B r2→Calls Tryz.prog 127 #[lv B,.int .i64 6] W fun e w'=>PE (m + 1) B W (brT M 6 r2) e w'):=fun W q=>branches_any HM.out HG.out 6 q (by have:=N2.out.2;have:=hl1.out;omega)
  unfold lv at CL
  go_wp2_with (go_at_call 127;refine Sto.out ?_)
  refine Sto.mk ?_
  refine (CL.out _ (S4'.out.lq N2.out.1)).mono ?_
  rcases hc:brT M 6 r2 with p|x
  ·rintro e w5 ⟨hb5,rfl⟩
   have e2:Hid (R=.inl p):=by show _=_;rw [HU.out,hwn];exact hc
   clear hc HU hwn
   first|exact ⟨rfl,PE.bad e2.out (S4'.out.fb.trans hb5)⟩|(go_wp2_with fail;exact ⟨rfl,PE.bad e2.out (S4'.out.fb.trans hb5)⟩)
  rintro e w5 ⟨hb5,q,rfl,hk5,hq5⟩
  have e2:Hid (R=.inr x):=by show _=_;rw [HU.out,hwn];exact hc
  obtain ⟨a,mm,c,a',m',c',a2,m2,c2,a3,m3,c3,hqs⟩:=hk5.rd.shape
  subst hqs
  have K5:=hide hk5
  have hz4:=S4'.out.fb.size
  have hz5:=hb5.size
  have hlt4:=S4'.out.ex.lt
  have S5:=hide (S4'.out.after hB4 hi3 hb5 hq5)
  clear hb5 hq5 hk5 kL hc HU hwn
  have kz:=S5.out.ex.cells
  have kf:=S5.out.ex.frz
  have kl:=S5.out.ex.lt
  unfold ecl
  go_wp2_with fail
  refine bodyPost_ret (v:=.agg (ecl (ehd (m + 1) x.1) ⟨.slice a mm c,.slice a' m' c',.slice a2 m2 c2,.slice a3 m3 c3⟩)) (by simp [results,Tryz.results71,go_sem,ecl,lf,zs,vz,vH,vhd,nilB, *]) rfl (PE.good (n:=m + 1) (x:=x) e2.out ?_ ?_ ?_)
  ·(iterate 13 (refine FB.set ?_ (by omega)))
   exact S5.out.fb
  ·refine KE.fin (s:=w4'.heap.size) (e:=w5.heap.size) ?_ (by omega)
   (iterate 13 (refine KE.set ?_ (by omega)))
   exact K5.out
  ·(iterate 13 (refine TQ.set ?_ (by omega)))
   exact S5.out.tq
 rw [if_neg n5] at hu
 have m5:=tl_lit (m:=[99,97,115,101]) (fun q=>n5 (mkB_inj (hS.trans q)))
 by_cases n6:ownT t=[99,111,110,115,116]
 ·have hS':S=⟨#[99,111,110,115,116]⟩:=by rw [←hS,n6];rfl
  have OK:=hide (hok.out (by rw [n6];simp))
  rw [if_pos n6] at hu
  have HU:=hide hu
  subst hS'
  clear hS hu n6 n0 n1 n2 n3 n4 n5
  obtain ⟨t',r',hr'⟩:=OK.out.cons
  have CL:Hid (∀ W,Lq W B r→Calls Tryz.prog 128 #[lv B] W fun e w'=>CnP B W (cnT r) e w'):=fun W q=>by
   have hsh':=hsh.out t' r' hr' OK.out
   have q':=q.tq
   rw [hr'] at q' ⊢
   exact const_any HPar.out q' hsh'
  unfold lv at CL
  go_wp2_with (go_at_call 128;refine Sto.out ?_)
  refine Sto.mk ?_
  refine (CL.out _ (S4.out.lq OK.out)).mono ?_
  rcases hc:cnT r with p|v
  ·rintro e w5 ⟨hb5,rfl⟩
   have e2:Hid (R=.inl p):=by show _=_;rw [HU.out,hc]
   clear hc HU
   first|exact ⟨rfl,PE.bad e2.out (S4.out.fb.trans hb5)⟩|(go_wp2_with fail;exact ⟨rfl,PE.bad e2.out (S4.out.fb.trans hb5)⟩)
  rintro e w5 ⟨hb5,rfl,hq5⟩
  have e2:Hid (R=.inr ((⟨7,nilB,[],1,v.1⟩,[]),v.2)):=by show _=_;rw [HU.out,hc]
  have hrd:=hide (fun W=>cn_rd hc W)
  have hz4:=S4.out.fb.size
  have hz5:=hb5.size
  have S5:=hide (S4.out.after hB4 hi3 hb5 hq5)
  clear hb5 hq5 kL hc HU
  have kz:=S5.out.ex.cells
  have kf:=S5.out.ex.frz
  have kl:=S5.out.ex.lt
  unfold vcl vals
  go_wp2_with fail
  refine bodyPost_ret (v:=.agg (ecl (⟨7,nilB,[],1,v.1⟩:Eh) zs)) (by simp [results,Tryz.results71,go_sem,ecl,zs,vhd1,nilB, *]) rfl (PE.good (n:=m + 1) (x:=((⟨7,nilB,[],1,v.1⟩,[]),v.2)) e2.out ?_ ?_ ?_)
  ·(iterate 13 (refine FB.set ?_ (by omega)))
   exact S5.out.fb
  ·exact ke_nil _ rfl (fun W'=>hrd.out W') (by simp only [World.size_setCell];omega)
  ·(iterate 13 (refine TQ.set ?_ (by omega)))
   exact S5.out.tq
 rw [if_neg n6] at hu
 have m6:=tl_lit (m:=[99,111,110,115,116]) (fun q=>n6 (mkB_inj (hS.trans q)))
 have PL:Hid (∀ W,Gp W→Calls Tryz.prog 129 #[tkV t] W fun e w'=>PlP W (plO (ownT t)) t.p e w'):=fun W g=>plainStep_any t W g
 unfold tkV at PL
 have HU:=hide hu
 have kt:=Tb.cell2 S4.out.tb
 have hS2:=hide hS
 clear hu hS n0 n1 n2 n3 n4 n5 n6
 go_wp2_with (go_at_call 129;refine Sto.out ?_)
 refine Sto.mk ?_
 refine (PL.out _ S4.out.gp).mono ?_
 rcases hc:plO (ownT t) with _|op
 ·rintro e w5 ⟨hb5,rfl⟩
  have e2:Hid (R=.inl t.p):=by show _=_;rw [HU.out,hc]
  clear hc HU
  first|exact ⟨rfl,PE.bad e2.out (S4.out.fb.then hb5)⟩|(go_wp2_with fail;exact ⟨rfl,PE.bad e2.out (S4.out.fb.then hb5)⟩)
 rintro e w5 ⟨hb5,rfl⟩
 have e2:Hid (R=.inr ((lf op,[]),r)):=by show _=_;rw [HU.out,hc]
 have hz4:=S4.out.fb.size
 have hz5:=hb5.size
 have S5:=hide (S4.out.below hB4 hi3 hb5)
 clear hb5 kL hc HU kt
 have kz:=S5.out.ex.cells
 have kf:=S5.out.ex.frz
 have kl:=S5.out.ex.lt
 rw [show ecl (lf op) zs=#[.int .i64 op,.string ⟨#[]⟩,.slice none 0 0,.slice none 0 0,.int .i64 0,.bool false,.bool false,.string ⟨#[]⟩,.int .i64 0,.int .u64 0,.string ⟨#[]⟩,.slice none 0 0,.slice none 0 0] from rfl]
 go_wp2_with fail
 refine bodyPost_ret (v:=.agg (ecl (lf op) zs)) (by simp [results,Tryz.results71,go_sem,ecl,lf,zs,vz,vH,vhd,nilB, *]) rfl (PE.good (n:=m + 1) (x:=((lf op,[]),r)) e2.out ?_ ?_ ?_)
 ·(iterate 13 (refine FB.set ?_ (by omega)))
  exact S5.out.fb
 ·exact ke_nil _ rfl rd_vz (by simp only [World.size_setCell];omega)
 ·(iterate 13 (refine TQ.set ?_ (by omega)))
  exact S5.out.tq
end Lx
end Go.Proofs.YtgicnopppgnjjaaGreatDoor
namespace Go.Proofs.YtgicnopppgnjjaaGreatDoor
namespace Lx
open Go.RowKit
theorem E2.one {n L s0:Nat} {W:World} {x:ET n} {q:Sl} (h:KE n W x q s0 W.heap.size) (hL:L≤s0):E2 n L (W.alloc (.cells (ecl (ehd n x) q) 33)) (.slice none 0 0) (.slice (some ⟨W.heap.size,0,none⟩) 1 1) [] [x] (ecl (ehd n x) q).toList:=by
 have hs:=h.1
 refine ⟨World.ownsRow_nil _ _ _ _,⟨rfl,Or.inr ⟨W.heap.size,1,ecl (ehd n x) q,rfl,by omega,heap_alloc_new W _,Nat.le_refl _,by decide,rfl,rfl⟩⟩,fun j hj=>?_⟩
 have hj0:j=0:=by simp at hj;omega
 subst hj0
 refine ⟨q,s0,W.heap.size,h.al,hL,fun g hg=>?_,fun r u hr=>?_⟩
 ·rcases hg with hg|hg
  ·cases hg;exact Or.inr (Nat.le_refl _)
  ·cases hg
 ·simpa using hr
theorem E2.elt {n L:Nat} {W:World} {nv v:Value} {nms:List ByteArray} {l:List (ET n)} {us:List Value} (h:E2 n L W nv v nms l us) (j:Nat) (hj:j<l.length):∃ b c q s e,v=.slice (some ⟨b,0,none⟩) l.length c∧L≤b∧b<W.heap.size∧W.rangeAt b (j * 13) (ecl (ehd n l[j]) q).toList∧KE n W l[j] q s e∧L≤s:=by
 have ho:=h.row
 obtain ⟨q,s,e,k1,k2,_,k4⟩:=h.all j hj
 rcases id ho.2 with ⟨_,e0⟩|⟨g,cap,cur,e1,h2,h3,h4,h5,h6,h7⟩
 ·omega
 ·refine ⟨g,cap,q,s,e,e1,h2,(Array.getElem?_eq_some_iff.1 h3).1,fun r u hr=>?_,k1,k2⟩
  have hu:=k4 r u hr
  rw [←h7,List.getElem?_take] at hu
  unfold World.cell?
  rw [h3]
  split at hu
  ·simpa using hu
  ·cases hu
theorem range13 {W:World} {b o:Nat} {h:Eh} {q:Sl} (k:W.rangeAt b o (ecl h q).toList):W.cell? ⟨b,o,none⟩=some (.int .i64 h.op)∧W.cell? ⟨b,o + 1,none⟩=some (.string h.name)∧W.cell? ⟨b,o + 2,none⟩=some q.ns∧W.cell? ⟨b,o + 3,none⟩=some q.ls∧W.cell? ⟨b,o + 4,none⟩=some (.int .i64 (vhd h.vn h.val).kind)∧W.cell? ⟨b,o + 5,none⟩=some (.bool (vhd h.vn h.val).flag)∧W.cell? ⟨b,o + 6,none⟩=some (.bool (vhd h.vn h.val).neg)∧W.cell? ⟨b,o + 7,none⟩=some (.string (vhd h.vn h.val).dig)∧W.cell? ⟨b,o + 8,none⟩=some (.int .i64 (vhd h.vn h.val).exp)∧W.cell? ⟨b,o + 9,none⟩=some (.int .u64 (vhd h.vn h.val).bits)∧W.cell? ⟨b,o + 10,none⟩=some (.string (vhd h.vn h.val).text)∧W.cell? ⟨b,o + 11,none⟩=some q.vs∧W.cell? ⟨b,o + 12,none⟩=some q.vl :=
 ⟨k 0 _ rfl,k 1 _ rfl,k 2 _ rfl,k 3 _ rfl,k 4 _ rfl,k 5 _ rfl,k 6 _ rfl,k 7 _ rfl,k 8 _ rfl,k 9 _ rfl,k 10 _ rfl,k 11 _ rfl,k 12 _ rfl⟩
def fin2 {m:Nat}:Sum Int (List (ET m)×List Tk)→Sum Int (ET (m + 1)×List Tk)
 | .inl p=>.inl p
 | .inr y=>.inr (pipeT y.1,y.2)
theorem mpg_fin {m:Nat} {S:List Tk→Sum Int (ET m×List Tk)} {l:List Tk} {x:ET m×List Tk} (h:S l=.inr x):mpgT S l=fin2 (moreT S l.length [x.1] x.2):=by
 unfold mpgT
 rw [h]
 show (match moreT S l.length [x.1] x.2 with | .inl p=>_ | .inr y=>_)=_
 cases moreT S l.length [x.1] x.2 <;> rfl
structure MI (n B f:Nat) (S:List Tk→Sum Int (ET n×List Tk)) (w:World) (R:Sum Int (List (ET n)×List Tk)) (W:World) (v:Value) (acc:List (ET n)) (l:List Tk):Prop where
 fuel:∃ g,l.length≤g∧moreT S g acc l=R
 lq:Lq W B l
 lb:LB W w.heap.size B
 ex:Ex W (w.heap.size + 1) ze zs
 fb:FB B w W
 row:∃ us,E2 n (w.heap.size + 2) W (.slice none 0 0) v [] acc us
 few:acc.length + l.length≤100000∧l.length≤f∧1≤acc.length
theorem pipe_n {m:Nat} (l:List (ET m)) (h:l.length≠1):pipeT l=((lf 12,l):ET (m + 1)):=by
 match l,h with
 | [],_=>rfl
 | [_],h=>exact absurd rfl h
 | _ :: _ :: _,_=>rfl
set_option maxHeartbeats 4000000 in
set_option maxRecDepth 100000 in
theorem mapping_any {m f:Nat} {S:List Tk→Sum Int (ET m×List Tk)} (hS:MpOk m 71 S f) (hG:Gd S):MpOk (m + 1) 33 (mpgT S) f:=by
 intro w B l h hl
 have hB4:=h.tq.sz
 have hln:l.length≤100000:=by obtain ⟨a,c,_,_,_,_⟩:=h.tq;omega
 have H:=hide h
 have HS:=hide hS
 have HG:=hide hG
 have ZL:=hide (lb_new w B)
 have Z0:=hide (ze_new (w.alloc (.cells #[.func (.func 123) #[] #[.pointer (some ⟨B,0,none⟩)],.func (.func 124) #[] #[.pointer (some ⟨B,0,none⟩)]] 104)))
 rw [World.size_alloc] at Z0
 have hne:w.heap.size + 1≠B:=by omega
 have hne0:w.heap.size≠B:=by omega
 obtain ⟨R,hR⟩:∃ R,mpgT S l=R:=⟨_,rfl⟩
 rw [hR]
 have HR:=hide hR
 have hs1:Hid (∀ w',Below w.heap.size w w'→Calls Tryz.prog 71 #[lv B] w' fun e w''=>PE m B w' (S l) e w''):=fun w' hb=>hS w' B l (h.below hb) hl
 clear hR h hS hG
 unfold lv at hs1 ⊢
 go_enter Tryz.func33, Tryz.ntmps33
 go_wp2_with (go_at_call 71;refine Sto.out ?_)
 refine Sto.mk ?_
 refine (hs1.out _ (below_al (below_al (Below.refl _ _)))).mono ?_
 rcases hx:S l with p|x
 ·rintro e w3 ⟨hb3,rfl⟩
  have e2:Hid (R=.inl p):=by show _=_;rw [←HR.out];unfold mpgT;rw [hx]
  clear hx HR
  first|exact ⟨rfl,PE.bad e2.out ((FB.of (below_al (below_al (Below.refl _ _)))).trans hb3)⟩|(go_wp2_with fail;exact ⟨rfl,PE.bad e2.out ((FB.of (below_al (below_al (Below.refl _ _)))).trans hb3)⟩)
 rintro e w3 ⟨hb3,q,rfl,hk3,hq3⟩
 have N1:=hide (HG.out _ _ H.out.ok hx)
 obtain ⟨a,mm,c,a',m',c',a2,m2,c2,a3,m3,c3,hqs⟩:=hk3.rd.shape
 subst hqs
 have hz3:=hb3.size
 simp only [World.size_alloc] at hz3
 obtain ⟨R2,hR2⟩:∃ R2,moreT S l.length [x.1] x.2=R2:=⟨_,rfl⟩
 have HU:Hid (R=fin2 R2):=by show _=_;rw [←HR.out,←hR2];exact mpg_fin hx
 have I3:Hid (MI m B f S w R2 (w3.alloc (.cells (ecl (ehd m x.1) ⟨.slice a mm c,.slice a' m' c',.slice a2 m2 c2,.slice a3 m3 c3⟩) 33)) (.slice (some ⟨w3.heap.size,0,none⟩) 1 1) [x.1] x.2):=by
  have e1:=(H.out.below (below_al (o:=.cells #[.func (.func 123) #[] #[.pointer (some ⟨B,0,none⟩)],.func (.func 124) #[] #[.pointer (some ⟨B,0,none⟩)]] 104) (Below.refl _ _))).al.fb hb3 hq3 N1.out.1
  refine ⟨⟨l.length,Nat.le_of_lt N1.out.2,hR2⟩,e1.al,(((ZL.out.below (below_al (Below.refl _ _))).fb hb3 hne0)).below (below_al (Below.refl _ _)),(Z0.out.fb hb3 hne).below (below_al (Below.refl _ _)),((FB.of (below_al (below_al (Below.refl _ _)))).trans hb3).al,⟨_,E2.one (by simpa using hk3) (by omega)⟩,?_,?_,?_⟩
  ·have:=N1.out.2;simp;omega
  ·have:=N1.out.2;omega
  ·simp
 clear hx HR hR2 hk3 hb3 hq3 hs1 ZL Z0 H hln hl
 unfold ecl
 simp only [ecl] at I3
 go_wp2_with fail
 go_loopw [3] (fun v w'=>∃ acc l',Hid (MI m B f S w R2 w' v acc l')) (fun _ w'=>lenB w' B)
 case atStart=>exact ⟨[x.1],x.2,I3.out⟩
 case round =>
  obtain ⟨acc,l1,HI⟩:=hrel
  clear I3
  obtain ⟨⟨g,hg,hfu⟩,hlq,hlb,hex,hfb,⟨us,hE⟩,hfew1,hfew2,hfew3⟩:=HI.out
  have hBw:B<w.heap.size + 2:=by omega
  obtain ⟨_,_,a',c',_,e2⟩:=hE.shape
  obtain ⟨N,hN⟩:∃ N,acc.length=N:=⟨_,rfl⟩
  rw [hN] at e2 hfew1 hfew3
  subst e2
  have h1:0<l1.length:=by obtain ⟨t,r,rfl⟩:=hlq.ok.cons;simp
  obtain ⟨g,rfl⟩:∃ g',g=g' + 1:=⟨g - 1,by omega⟩
  have Hlen:=hide hlq.tq.lenB
  have hnx:=has_nx (m:=[59]) hlq.ok (by simp)
  have HH:Hid (∀ w',Lq w' B l1→Calls Tryz.prog 72 #[lv B,.string ⟨#[59]⟩] w' fun e w''=>e=.returned (.bool (hasL [59] l1).1)∧TQ w'' B (hasL [59] l1).2∧FB B w' w''):=fun w' hq=>hasL_any [59] hq
  unfold lv at HH
  have LQ:=hide hlq
  have FBw:=hide hfb
  have HE:=hide hE
  have LBw:=hide hlb
  have EXw:=hide hex
  have kL:=hlb.cells
  have HN:=hide hN
  have HF2:=hide hfew2
  have hN200:N≤200000:=by omega
  have HF1:=hide hfew1
  have FU:=hide hfu
  have hG1:=hide hg
  clear HI hfu hlq hfb hE hlb hex hfew2 hg hN hfew1
  go_wp2_with (go_at_call 72;refine Sto.out ?_)
  refine Sto.mk ?_
  refine (HH.out _ LQ.out).mono ?_
  rintro e w4 ⟨rfl,hq4,hb4⟩
  rcases hh:(hasL [59] l1).1 with _|_
  ·-- the end of the steps
   have e3:Hid (R2=.inr (acc,(hasL [59] l1).2)):=by show _=_;rw [←FU.out];unfold moreT;rw [hh];rfl
   have e4:Hid (R=.inr (pipeT acc,(hasL [59] l1).2)):=by show _=_;rw [HU.out,e3.out];rfl
   have E4:=hide (HE.out.fb hb4 hBw)
   have X4:=hide (EXw.out.fb hb4 hne)
   have F4:=hide (FBw.out.trans hb4)
   have HQ4:=hide hq4
   clear FU hh hnx hb4 hq4 LQ HE EXw FBw LBw kL HH HU e3
   by_cases hN1:N=1
   ·obtain ⟨y,hy⟩:∃ y,acc=[y]:=by
     match acc,(HN.out.trans hN1) with
     | [y],_=>exact ⟨y,rfl⟩
    have bN:((N:Int)==1)=true:=by simp;omega
    have b0:(0:Int)<(N:Int):=by omega
    have HN1:=hide hN1
    clear hN1
    subst hy
    obtain ⟨b,c2,q,s,e,he,hLb,hbl,hrg,hke,hLs⟩:=E4.out.elt 0 (by simp)
    have he':=Value.slice.inj he
    obtain ⟨rfl,_,rfl⟩:=he'
    obtain ⟨a5,m5,c5,a6,m6,c6,a7,m7,c7,a8,m8,c8,rfl⟩:=hke.rd.shape
    have hre:=range13 hrg
    simp only [List.getElem_cons_zero,Nat.zero_mul,Nat.zero_add] at hre hke
    have K4:=hide hke
    have kz:=X4.out.cells
    have kf:=X4.out.frz
    have kl:=X4.out.lt
    have hz4:=F4.out.size
    have HBB:=hide (And.intro hLs (And.intro hke.1 hke.2.1))
    clear hLb hLs
    clear he hrg hke HN hN200 HF1 HF2 hfew3 Hlen hG1 h1
    go_wp2_with fail
    refine bodyPost_ret (v:=.agg (ecl (ehd m y) ⟨.slice a5 m5 c5,.slice a6 m6 c6,.slice a7 m7 c7,.slice a8 m8 c8⟩)) (by simp [results,Tryz.results33,go_sem,ecl, *]) rfl (PE.upp (x:=(y,(hasL [59] l1).2)) e4.out ?_ ?_ ?_)
    ·(iterate 13 (refine FB.set ?_ (by omega)))
     exact F4.out
    ·refine KE.fin (s:=s) (e:=e) ?_ (by have:=HBB.out;omega)
     obtain ⟨hLs,_,_⟩:=HBB.out
     (iterate 13 (refine KE.set ?_ (by omega)))
     exact K4.out
    ·(iterate 13 (refine TQ.set ?_ (by omega)))
     exact HQ4.out
   ·have e5:Hid (R=.inr ((lf 12,acc),(hasL [59] l1).2)):=by show _=_;rw [e4.out,pipe_n acc (by rw [HN.out];exact hN1)]
    have bN:((N:Int)==1)=false:=by simp;omega
    have bN2:¬ ((N:Int)=1):=by omega
    have kz:=X4.out.cells
    have kf:=X4.out.frz
    have kl:=X4.out.lt
    have hz4:=F4.out.size
    have HNn:=hide hN1
    clear hN200 HF1 HF2 hfew3 Hlen hG1 h1 e4 hN1
    go_wp2_with fail
    refine bodyPost_ret (v:=.agg (ecl (lf 12) ⟨.slice none 0 0,.slice a' N c',.slice none 0 0,.slice none 0 0⟩)) (by simp [results,Tryz.results33,go_sem,ecl,lf,vz,vH,vhd,nilB, *]) rfl (PE.good (n:=m + 1) (x:=((lf 12,acc),(hasL [59] l1).2)) e5.out ?_ ?_ ?_)
    ·(iterate 13 (refine FB.set ?_ (by omega)))
     exact F4.out
    ·refine KE.fin (s:=w.heap.size + 2) (e:=w4.heap.size) ?_ (by omega)
     (iterate 13 (refine KE.set ?_ (by omega)))
     exact ke_row E4.out 12 (Nat.le_refl _) (by omega)
    ·(iterate 13 (refine TQ.set ?_ (by omega)))
     exact HQ4.out
  ·have N2:=hide (hnx.1 hh).1
   have Q4:=hide (LQ.out.fb hb4 hq4 N2.out)
   have N2l:=hide (hnx.1 hh).2
   have E4:=hide (HE.out.fb hb4 hBw)
   have L4:=hide (LBw.out.fb hb4 hne0)
   have X4:=hide (EXw.out.fb hb4 hne)
   have F4:=hide (FBw.out.trans hb4)
   clear hnx hb4 hq4 LQ HE LBw EXw FBw kL HH
   obtain ⟨l2,hl2⟩:∃ l2,(hasL [59] l1).2=l2:=⟨_,rfl⟩
   rw [hl2] at N2 Q4 N2l
   have kL:=L4.out.cells
   have HI:Hid (∀ w',Lq w' B l2→Calls Tryz.prog 71 #[lv B] w' fun e w''=>PE m B w' (S l2) e w''):=fun w' q=>HS.out w' B l2 q (by have:=N2l.out;have:=HF2.out;omega)
   unfold lv at HI
   go_wp2_with (go_at_call 71;refine Sto.out ?_)
   refine Sto.mk ?_
   refine (HI.out _ Q4.out).mono ?_
   rcases hx:S l2 with p|x2
   ·rintro e w5 ⟨hb5,rfl⟩
    have e2:Hid (R=.inl p):=by
     show _=_
     rw [HU.out,←FU.out]
     unfold moreT
     rw [if_pos hh,hl2,hx]
     rfl
    clear FU hx hh hl2
    first|exact ⟨rfl,PE.bad e2.out (F4.out.trans hb5)⟩|(go_wp2_with fail;exact ⟨rfl,PE.bad e2.out (F4.out.trans hb5)⟩)
   rintro e w5 ⟨hb5,q5,rfl,hk5,hq5⟩
   have N3:=hide (HG.out _ _ N2.out hx)
   have e2:Hid (moreT S g (acc++[x2.1]) x2.2=R2):=by
    show _=_
    rw [←FU.out]
    conv=>rhs;unfold moreT
    rw [if_pos hh,hl2,hx]
   have K5:=hide hk5
   obtain ⟨b1,b2,b3,b4,b5,b6,b7,b8,b9,b10,b11,b12,hqs⟩:=hk5.rd.shape
   subst hqs
   have Q5:=hide (Q4.out.fb hb5 hq5 N3.out.1)
   have hr5:=hide (E4.out.lt)
   have E5:=hide (E4.out.fb hb5 hBw)
   have L5:=hide (L4.out.fb hb5 hne0)
   have X5:=hide (X4.out.fb hb5 hne)
   have F5:=hide (F4.out.trans hb5)
   have kz5:=hb5.size
   have kz4:=F4.out.size
   have kz6:=X4.out.lt
   clear hb5 hq5 hk5 Q4 E4 L4 X4 F4 kL HI FU hx hh hl2
   unfold ecl
   go_wp2_with (at_builtin;refine Sto.out ?_)
   refine Sto.mk ?_
   refine app_e13 rfl (.tmp 9) (.tmp 12) rfl (w.heap.size + 2) (.slice a' N c') N us rfl (row_len E5.out.al.row HN.out) w5.heap.size 1 rfl (ehd m x2.1) ⟨.slice b1 b2 b3,.slice b4 b5 b6,.slice b7 b8 b9,.slice b10 b11 b12⟩ rfl rfl rfl rfl ((ex_new _ _ _).range) hN200 (by rw [World.size_alloc];have:=F5.out.size;omega) ?_
   intro av2 cv2 w6 o6 g6 at6
   have hr6:=E5.out.lt
   have E6:=hide (E5.out.al.push HN.out K5.out.al (by omega) (fun g hg=>(hr5.out g hg).2) g6.out o6.out at6.out)
   have Q6:=hide (Q5.out.al.grown g6.out (fun g hg=>by have:=(hr6 g (Or.inl hg)).1;omega))
   have L6:=hide ((L5.out.below (below_al (Below.refl _ _))).grown g6.out (fun g hg=>by have:=(hr6 g (Or.inl hg)).1;omega))
   have X6:Hid (Ex w6 (w.heap.size + 1) ze zs):=⟨(g6.out.block _ (by have:=X5.out.lt;rw [World.size_alloc];omega) (fun e=>by have:=(hr6 _ (Or.inl e.symm)).1;omega)).trans (X5.out.below (below_al (Below.refl _ _))).at_⟩
   have F6:=hide (F5.out.al.grown g6.out (fun g hg=>by have:=(hr6 g (Or.inl hg)).1;omega))
   clear o6 g6 at6 hr6 hr5 E5 Q5 L5 X5 F5 K5
   go_wp2_with fail
   have z2:=N2l.out
   have z3:=N3.out.2
   have zg:=hG1.out
   have zf1:=HF1.out
   have zf2:=HF2.out
   refine ⟨⟨acc++[x2.1],x2.2,⟨⟨g,by omega,e2.out⟩,Q6.out,L6.out,X6.out,F6.out,⟨_,E6.out⟩,?_,?_,?_⟩⟩,?_⟩
   ·rw [List.length_append,List.length_singleton,HN.out];omega
   ·omega
   ·rw [List.length_append,List.length_singleton];omega
   ·rw [Hlen.out,Q6.out.tq.lenB];omega
theorem step_ok (hP:ParseOk):∀ f,MpOk (dp f) 71 (stp f) f
 | 0=>by
  intro w B l h hl
  obtain ⟨t,r,rfl⟩:=h.ok.cons
  simp at hl
 | f + 1=>by
  intro w B l h hl
  exact step_any (m:=dp f + 1) (M:=mpgT (stp f)) hP (mapping_any (step_ok hP f) (stp_nx f)) (mpg_nx (stp_nx f)) h hl
theorem mapping_ok (hP:ParseOk) (f:Nat):MpOk (dp f + 1) 33 (mpgT (stp f)) f:=mapping_any (step_ok hP f) (stp_nx f)
end Lx
end Go.Proofs.YtgicnopppgnjjaaGreatDoor
