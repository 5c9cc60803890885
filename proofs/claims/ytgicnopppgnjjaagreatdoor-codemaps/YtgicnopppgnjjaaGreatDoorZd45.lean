/- Merged by program: CoMaps. -/
import Derived.Test.YtgicnopppgnjjaaGreatDoorZd44
import Derived.Test.YtgicnopppgnjjaaGreatDoorZd32
set_option linter.unusedSimpArgs false
set_option linter.unusedVariables false
namespace Go.Proofs.YtgicnopppgnjjaaGreatDoor
namespace Lx
open Go.RowKit
theorem re_one {n:Nat} {x:ET n} {q:Sl} {W:World} (h:RE n W x q):RE (n + 1) (W.alloc (.cells (ecl (ehd n x) q) 33)) (mapE x) ⟨.slice none 0 0,.slice (some ⟨W.heap.size,0,none⟩) 1 1,.slice none 0 0,.slice none 0 0⟩:=by
 refine ⟨Or.inl ⟨rfl,rfl⟩,⟨Or.inl ⟨rfl,rfl⟩,Or.inl ⟨rfl,rfl⟩⟩,Or.inr ⟨W.heap.size,0,1,none,rfl,Nat.le_refl _,by decide,fun _=>⟨rfl,by simp⟩,fun i hi=>?_⟩⟩
 have hi0:i=0:=by
  have:i<1:=hi
  omega
 subst hi0
 refine ⟨q,?_,h.below (below_al (Below.refl _ _))⟩
 have:=new_rng (W:=W) (h:=ehd n x) (q:=q) (T:=33)
 exact this
theorem ge_map {n:Nat} {x:ET n} (h:GE n x):GE (n + 1) (mapE x):=⟨gh_lf 4,by show 1≤100000;omega,fun y hy=>by rw [List.mem_singleton.1 (show y∈[x] from hy)];exact h⟩
theorem m0_cells {S:Nat} {W:World} {b:Nat} {l:List Nd} {ys:List Value} (h:NC S W b (⟨bareH (lf 4),[1]⟩ :: l) ys):∃ g c,W.cell? ⟨b,0,none⟩=some (.int .i64 4)∧W.cell? ⟨b,3,none⟩=some (.slice (some ⟨g,0,none⟩) 1 c)∧1≤c∧W.cell? ⟨g,0,none⟩=some (.int .i64 1):=by
 obtain ⟨s0,a0,c0⟩:=h.node 0 (by simp)
 obtain ⟨g,c,e,h1,h2⟩:=OwnZ.cells (l:=[1]) a0.ks (by decide)
 refine ⟨g,c,c0 0 _ rfl,?_,h1,h2 0 (by decide)⟩
 have:=c0 3 _ rfl
 rw [e] at this
 exact this
theorem ecl_lf4 (q:Sl):ecl (lf 4) q=#[.int .i64 4,.string ⟨#[]⟩,q.ns,q.ls,.int .i64 0,.bool false,.bool false,.string ⟨#[]⟩,.int .i64 0,.int .u64 0,.string ⟨#[]⟩,q.vs,q.vl]:=rfl
set_option maxRecDepth 100000 in
set_option maxHeartbeats 8000000 in
theorem maps_bad (hP:ParseOk) (gk:Nat) (hg:1005≤gk) (n:Nat) (x:ET n) (qx:Sl) (w:World) (g:Gs w) (rx:RE n w x qx) (zx:ESz n x) (dq:{_f:(p:Prop)→Decidable p // True}) (E1 E2:Int) (hE1:lck dq n x=E1) (hE2:lck dq (n + 1) (mapE x)=E2) (h1:E1≠0) (h2:E2≠0) (h3:E2=E1∨E2=2) :
  Calls Tryz.prog 8 #[.agg (ecl (ehd n x) qx)] w fun e w'=>e=.returned (.bool true)∧Below w.heap.size w w':=by
 obtain ⟨x1,x2,x3,x4,x5,x6,x7,x8,x9,x10,x11,x12,hqs⟩:=rx.shape
 subst hqs
 have bx:=hide (fun W (hb:Below w.heap.size w W)=>bige_any n x ⟨.slice x1 x2 x3,.slice x4 x5 x6,.slice x7 x8 x9,.slice x10 x11 x12⟩ W (rx.below hb) zx)
 have aw:=hide (fun W (hb:Below w.heap.size w W)=>cawake_any hP gk hg W (g.below hb))
 have cp:=hide (fun (h:eblk n x≤32768) W (hb:Below w.heap.size w W)=>compile_any (dq:=dq) n x ⟨.slice x1 x2 x3,.slice x4 x5 x6,.slice x7 x8 x9,.slice x10 x11 x12⟩ W (rx.below hb) ⟨eblk_ge n x zx h,(g.below hb).gg.gu⟩ (by have:=esiz_eblk n x;omega))
 have cm:=hide (fun (h:eblk n x≤32768) W (hb:Below w.heap.size w W)=>compile_any (dq:=dq) (n + 1) (mapE x) ⟨.slice none 0 0,.slice (some ⟨W.heap.size,0,none⟩) 1 1,.slice none 0 0,.slice none 0 0⟩ (W.alloc (.cells (ecl (ehd n x) ⟨.slice x1 x2 x3,.slice x4 x5 x6,.slice x7 x8 x9,.slice x10 x11 x12⟩) 33)) (re_one (rx.below hb)) ⟨ge_map (eblk_ge n x zx h),(g.below (below_al hb)).gg.gu⟩ (by have:=esiz_eblk n x;rw [mapE_siz];omega))
 unfold CpP at cp cm
 rw [hE1] at cp
 rw [hE2,mapE_siz,mapE_prg] at cm
 simp only [show ehd (n + 1) (mapE x)=lf 4 from rfl,ecl_lf4] at cm
 obtain ⟨L,hL⟩:∃ L,(prg n x 0).map bareN=L:=⟨_,rfl⟩
 obtain ⟨M,hM⟩:∃ M,esiz n x=M:=⟨_,rfl⟩
 have hLM:L.length=M:=by rw [←hL,List.length_map,prg_len,hM]
 have HL:=hide hL
 have KO:Hid (∀ p (hp:p<L.length),∀ k∈L[p].kids,(p:Int)<k∧k<(L.length:Int)):=by
  rw [←hL]
  exact inOrd_kids (lf 1) ((inOrd_bare _).2 (prg_inOrd n x))
 have KG:Hid (eblk n x≤32768→∀ p (hp:p<L.length),L[p].kids.length≤100000):=by
  intro h
  rw [←hL]
  exact fun p hp=>((gn_pb (eblk_ge n x zx h) (by have:=esiz_eblk n x;omega)).2 _ (List.getElem_mem hp)).2
 rw [hL,hM] at cp cm
 have M1:Hid (1≤M∧(eblk n x≤32768→M≤32768)):=⟨by rw [←hM];exact esz_pos n x,fun h=>by rw [←hM];have:=esiz_eblk n x;omega⟩
 obtain ⟨hx,hhx⟩:∃ h,ehd n x=h:=⟨_,rfl⟩
 have X0:=hide (ex_new w hx ⟨.slice x1 x2 x3,.slice x4 x5 x6,.slice x7 x8 x9,.slice x10 x11 x12⟩)
 rw [hhx] at bx cp cm ⊢
 have c0:=X0.out.cells
 simp only [ecl] at bx cp cm X0
 clear hhx hE1 hE2 rx g hP hL hM zx
 dsimp only at c0
 dsimp only [ecl]
 go_enter Tryz.func8, Tryz.ntmps8
 go_wp2_with (go_at_call 19;refine Sto.out ?_)
 refine Sto.mk ?_
 refine (bx.out _ (below_al (Below.refl _ _))).mono ?_
 rintro e w1 ⟨b1,rfl,H1,hb1⟩
 have B1:=hide (below_then (below_al (Below.refl _ _)) hb1)
 have X1:=hide (X0.out.below hb1)
 have c1:=(show Ex w1 w.heap.size hx ⟨.slice x1 x2 x3,.slice x4 x5 x6,.slice x7 x8 x9,.slice x10 x11 x12⟩ from ⟨X1.out.at_⟩).cells
 have l1:=X1.out.lt
 dsimp only at c1
 clear hb1 X0 c0 bx
 cases b1
 case true =>
  go_wp2_with fail
  go_ret
  exact ⟨rfl,B1.out⟩
 have hbk:=(H1.out rfl).1
 have cp1:=hide (cp.out hbk w1 B1.out)
 have M2:=M1.out.2 hbk
 clear cp H1
 go_wp2_with (go_at_call 21;refine Sto.out ?_)
 refine Sto.mk ?_
 refine cp1.out.mono ?_
 rintro e w2 ⟨hb2,⟨_,rfl⟩|hr⟩
 rotate_left
 ·exact absurd hr.1 h1
 have B2:=hide (below_then B1.out hb2)
 have X2:=hide (X1.out.below hb2)
 have c2:=(show Ex w2 w.heap.size hx ⟨.slice x1 x2 x3,.slice x4 x5 x6,.slice x7 x8 x9,.slice x10 x11 x12⟩ from ⟨X2.out.at_⟩).cells
 have l2:=X2.out.lt
 dsimp only at c2
 have cm1:=hide (cm.out hbk w2 B2.out)
 clear hb2 cp1 X1 c1 l1 cm
 go_wp2_with (go_at_call 21;refine Sto.out ?_)
 refine Sto.mk ?_
 refine cm1.out.mono ?_
 rintro e w3 ⟨hb3,⟨_,rfl⟩|hr⟩
 rotate_left
 ·exact absurd hr.1 h2
 have B3:=hide (below_then (below_al B2.out) hb3)
 have hne1:(E1 != 0)=true:=by simp [h1]
 by_cases he:E2=E1
 ·subst he
  clear hb3 cm1 X2 c2 l2
  go_wp2_with (go_at_call 23;refine Sto.out ?_)
  refine Sto.mk ?_
  refine (aw.out _ B3.out).mono ?_
  rintro e w4 ⟨rfl,hb4⟩
  have B4:=hide (below_then B3.out hb4)
  clear hb4 aw
  go_wp2_with fail
  go_ret
  exact ⟨rfl,B4.out⟩
 ·obtain rfl:E2=2:=by
   rcases h3 with h|h
   ·exact absurd h he
   ·exact h
  have hne2:((2:Int)==E1)=false:=by simp [he]
  clear hb3 cm1 X2 c2 l2
  go_wp2_with (go_at_call 23;refine Sto.out ?_)
  refine Sto.mk ?_
  refine (aw.out _ B3.out).mono ?_
  rintro e w4 ⟨rfl,hb4⟩
  have B4:=hide (below_then B3.out hb4)
  clear hb4 aw
  go_wp2_with fail
  go_ret
  exact ⟨rfl,B4.out⟩
set_option maxRecDepth 100000 in
set_option maxHeartbeats 8000000 in
theorem maps_far (hP:ParseOk) (gk:Nat) (hg:1005≤gk) (n:Nat) (x:ET n) (qx:Sl) (w:World) (g:Gs w) (rx:RE n w x qx) (zx:ESz n x) (dq:{_f:(p:Prop)→Decidable p // True}) (E1 E2:Int) (hE1:lck dq n x=E1) (hE2:lck dq (n + 1) (mapE x)=E2) (h1:E1=0) (h2:E2=2) :
  Calls Tryz.prog 8 #[.agg (ecl (ehd n x) qx)] w fun e w'=>e=.returned (.bool true)∧Below w.heap.size w w':=by
 obtain ⟨x1,x2,x3,x4,x5,x6,x7,x8,x9,x10,x11,x12,hqs⟩:=rx.shape
 subst hqs
 have bx:=hide (fun W (hb:Below w.heap.size w W)=>bige_any n x ⟨.slice x1 x2 x3,.slice x4 x5 x6,.slice x7 x8 x9,.slice x10 x11 x12⟩ W (rx.below hb) zx)
 have aw:=hide (fun W (hb:Below w.heap.size w W)=>cawake_any hP gk hg W (g.below hb))
 have cp:=hide (fun (h:eblk n x≤32768) W (hb:Below w.heap.size w W)=>compile_any (dq:=dq) n x ⟨.slice x1 x2 x3,.slice x4 x5 x6,.slice x7 x8 x9,.slice x10 x11 x12⟩ W (rx.below hb) ⟨eblk_ge n x zx h,(g.below hb).gg.gu⟩ (by have:=esiz_eblk n x;omega))
 have cm:=hide (fun (h:eblk n x≤32768) W (hb:Below w.heap.size w W)=>compile_any (dq:=dq) (n + 1) (mapE x) ⟨.slice none 0 0,.slice (some ⟨W.heap.size,0,none⟩) 1 1,.slice none 0 0,.slice none 0 0⟩ (W.alloc (.cells (ecl (ehd n x) ⟨.slice x1 x2 x3,.slice x4 x5 x6,.slice x7 x8 x9,.slice x10 x11 x12⟩) 33)) (re_one (rx.below hb)) ⟨ge_map (eblk_ge n x zx h),(g.below (below_al hb)).gg.gu⟩ (by have:=esiz_eblk n x;rw [mapE_siz];omega))
 unfold CpP at cp cm
 rw [hE1] at cp
 rw [hE2,mapE_siz,mapE_prg] at cm
 simp only [show ehd (n + 1) (mapE x)=lf 4 from rfl,ecl_lf4] at cm
 obtain ⟨L,hL⟩:∃ L,(prg n x 0).map bareN=L:=⟨_,rfl⟩
 obtain ⟨M,hM⟩:∃ M,esiz n x=M:=⟨_,rfl⟩
 have hLM:L.length=M:=by rw [←hL,List.length_map,prg_len,hM]
 have HL:=hide hL
 have KO:Hid (∀ p (hp:p<L.length),∀ k∈L[p].kids,(p:Int)<k∧k<(L.length:Int)):=by
  rw [←hL]
  exact inOrd_kids (lf 1) ((inOrd_bare _).2 (prg_inOrd n x))
 have KG:Hid (eblk n x≤32768→∀ p (hp:p<L.length),L[p].kids.length≤100000):=by
  intro h
  rw [←hL]
  exact fun p hp=>((gn_pb (eblk_ge n x zx h) (by have:=esiz_eblk n x;omega)).2 _ (List.getElem_mem hp)).2
 rw [hL,hM] at cp cm
 have M1:Hid (1≤M∧(eblk n x≤32768→M≤32768)):=⟨by rw [←hM];exact esz_pos n x,fun h=>by rw [←hM];have:=esiz_eblk n x;omega⟩
 obtain ⟨hx,hhx⟩:∃ h,ehd n x=h:=⟨_,rfl⟩
 have X0:=hide (ex_new w hx ⟨.slice x1 x2 x3,.slice x4 x5 x6,.slice x7 x8 x9,.slice x10 x11 x12⟩)
 rw [hhx] at bx cp cm ⊢
 have c0:=X0.out.cells
 simp only [ecl] at bx cp cm X0
 clear hhx hE1 hE2 rx g hP hL hM zx
 dsimp only at c0
 dsimp only [ecl]
 go_enter Tryz.func8, Tryz.ntmps8
 go_wp2_with (go_at_call 19;refine Sto.out ?_)
 refine Sto.mk ?_
 refine (bx.out _ (below_al (Below.refl _ _))).mono ?_
 rintro e w1 ⟨b1,rfl,H1,hb1⟩
 have B1:=hide (below_then (below_al (Below.refl _ _)) hb1)
 have X1:=hide (X0.out.below hb1)
 have c1:=(show Ex w1 w.heap.size hx ⟨.slice x1 x2 x3,.slice x4 x5 x6,.slice x7 x8 x9,.slice x10 x11 x12⟩ from ⟨X1.out.at_⟩).cells
 have l1:=X1.out.lt
 dsimp only at c1
 clear hb1 X0 c0 bx
 cases b1
 case true =>
  go_wp2_with fail
  go_ret
  exact ⟨rfl,B1.out⟩
 have hbk:=(H1.out rfl).1
 have cp1:=hide (cp.out hbk w1 B1.out)
 have M2:=M1.out.2 hbk
 clear cp H1
 go_wp2_with (go_at_call 21;refine Sto.out ?_)
 refine Sto.mk ?_
 refine cp1.out.mono ?_
 rintro e w2 ⟨hb2,hr|⟨_,b1,ys1,rfl,hnc1⟩⟩
 ·exact absurd h1 hr.1
 have B2:=hide (below_then B1.out hb2)
 have X2:=hide (X1.out.below hb2)
 have c2:=(show Ex w2 w.heap.size hx ⟨.slice x1 x2 x3,.slice x4 x5 x6,.slice x7 x8 x9,.slice x10 x11 x12⟩ from ⟨X2.out.at_⟩).cells
 have l2:=X2.out.lt
 dsimp only at c2
 subst h1
 have cm1:=hide (cm.out hbk w2 B2.out)
 clear hb2 cp1 X1 c1 l1 cm
 go_wp2_with (go_at_call 21;refine Sto.out ?_)
 refine Sto.mk ?_
 refine cm1.out.mono ?_
 rintro e w3 ⟨hb3,⟨_,rfl⟩|hr⟩
 rotate_left
 ·exact absurd (hr.1.symm.trans h2) (by decide)
 have B3:=hide (below_then (below_al B2.out) hb3)
 subst h2
 clear hb3 cm1 X2 c2 l2
 go_wp2_with (go_at_call 23;refine Sto.out ?_)
 refine Sto.mk ?_
 refine (aw.out _ B3.out).mono ?_
 rintro e w4 ⟨rfl,hb4⟩
 have B4:=hide (below_then B3.out hb4)
 clear hb4 aw
 go_wp2_with fail
 go_ret
 exact ⟨rfl,B4.out⟩
set_option maxRecDepth 100000 in
set_option maxHeartbeats 8000000 in
theorem maps_good (hP:ParseOk) (gk:Nat) (hg:1005≤gk) (n:Nat) (x:ET n) (qx:Sl) (w:World) (g:Gs w) (rx:RE n w x qx) (zx:ESz n x) (dq:{_f:(p:Prop)→Decidable p // True}) (E1 E2:Int) (hE1:lck dq n x=E1) (hE2:lck dq (n + 1) (mapE x)=E2) (h1:E1=0) (h2:E2=0) :
  Calls Tryz.prog 8 #[.agg (ecl (ehd n x) qx)] w fun e w'=>e=.returned (.bool true)∧Below w.heap.size w w':=by
 obtain ⟨x1,x2,x3,x4,x5,x6,x7,x8,x9,x10,x11,x12,hqs⟩:=rx.shape
 subst hqs
 have bx:=hide (fun W (hb:Below w.heap.size w W)=>bige_any n x ⟨.slice x1 x2 x3,.slice x4 x5 x6,.slice x7 x8 x9,.slice x10 x11 x12⟩ W (rx.below hb) zx)
 have aw:=hide (fun W (hb:Below w.heap.size w W)=>cawake_any hP gk hg W (g.below hb))
 have cp:=hide (fun (h:eblk n x≤32768) W (hb:Below w.heap.size w W)=>compile_any (dq:=dq) n x ⟨.slice x1 x2 x3,.slice x4 x5 x6,.slice x7 x8 x9,.slice x10 x11 x12⟩ W (rx.below hb) ⟨eblk_ge n x zx h,(g.below hb).gg.gu⟩ (by have:=esiz_eblk n x;omega))
 have cm:=hide (fun (h:eblk n x≤32768) W (hb:Below w.heap.size w W)=>compile_any (dq:=dq) (n + 1) (mapE x) ⟨.slice none 0 0,.slice (some ⟨W.heap.size,0,none⟩) 1 1,.slice none 0 0,.slice none 0 0⟩ (W.alloc (.cells (ecl (ehd n x) ⟨.slice x1 x2 x3,.slice x4 x5 x6,.slice x7 x8 x9,.slice x10 x11 x12⟩) 33)) (re_one (rx.below hb)) ⟨ge_map (eblk_ge n x zx h),(g.below (below_al hb)).gg.gu⟩ (by have:=esiz_eblk n x;rw [mapE_siz];omega))
 unfold CpP at cp cm
 rw [hE1] at cp
 rw [hE2,mapE_siz,mapE_prg] at cm
 simp only [show ehd (n + 1) (mapE x)=lf 4 from rfl,ecl_lf4] at cm
 obtain ⟨L,hL⟩:∃ L,(prg n x 0).map bareN=L:=⟨_,rfl⟩
 obtain ⟨M,hM⟩:∃ M,esiz n x=M:=⟨_,rfl⟩
 have hLM:L.length=M:=by rw [←hL,List.length_map,prg_len,hM]
 have HL:=hide hL
 have KO:Hid (∀ p (hp:p<L.length),∀ k∈L[p].kids,(p:Int)<k∧k<(L.length:Int)):=by
  rw [←hL]
  exact inOrd_kids (lf 1) ((inOrd_bare _).2 (prg_inOrd n x))
 have KG:Hid (eblk n x≤32768→∀ p (hp:p<L.length),L[p].kids.length≤100000):=by
  intro h
  rw [←hL]
  exact fun p hp=>((gn_pb (eblk_ge n x zx h) (by have:=esiz_eblk n x;omega)).2 _ (List.getElem_mem hp)).2
 rw [hL,hM] at cp cm
 have M1:Hid (1≤M∧(eblk n x≤32768→M≤32768)):=⟨by rw [←hM];exact esz_pos n x,fun h=>by rw [←hM];have:=esiz_eblk n x;omega⟩
 obtain ⟨hx,hhx⟩:∃ h,ehd n x=h:=⟨_,rfl⟩
 have X0:=hide (ex_new w hx ⟨.slice x1 x2 x3,.slice x4 x5 x6,.slice x7 x8 x9,.slice x10 x11 x12⟩)
 rw [hhx] at bx cp cm ⊢
 have c0:=X0.out.cells
 simp only [ecl] at bx cp cm X0
 clear hhx hE1 hE2 rx g hP hL hM zx
 dsimp only at c0
 dsimp only [ecl]
 go_enter Tryz.func8, Tryz.ntmps8
 go_wp2_with (go_at_call 19;refine Sto.out ?_)
 refine Sto.mk ?_
 refine (bx.out _ (below_al (Below.refl _ _))).mono ?_
 rintro e w1 ⟨b1,rfl,H1,hb1⟩
 have B1:=hide (below_then (below_al (Below.refl _ _)) hb1)
 have X1:=hide (X0.out.below hb1)
 have c1:=(show Ex w1 w.heap.size hx ⟨.slice x1 x2 x3,.slice x4 x5 x6,.slice x7 x8 x9,.slice x10 x11 x12⟩ from ⟨X1.out.at_⟩).cells
 have l1:=X1.out.lt
 dsimp only at c1
 clear hb1 X0 c0 bx
 cases b1
 case true =>
  go_wp2_with fail
  go_ret
  exact ⟨rfl,B1.out⟩
 have hbk:=(H1.out rfl).1
 have cp1:=hide (cp.out hbk w1 B1.out)
 have M2:=M1.out.2 hbk
 clear cp H1
 go_wp2_with (go_at_call 21;refine Sto.out ?_)
 refine Sto.mk ?_
 refine cp1.out.mono ?_
 rintro e w2 ⟨hb2,hr|⟨_,b1,ys1,rfl,hnc1⟩⟩
 ·exact absurd h1 hr.1
 have B2:=hide (below_then B1.out hb2)
 have X2:=hide (X1.out.below hb2)
 have c2:=(show Ex w2 w.heap.size hx ⟨.slice x1 x2 x3,.slice x4 x5 x6,.slice x7 x8 x9,.slice x10 x11 x12⟩ from ⟨X2.out.at_⟩).cells
 have l2:=X2.out.lt
 dsimp only at c2
 subst h1
 have N1:=hide (hnc1.mono (S':=w.heap.size) B1.out.size)
 clear hnc1
 have cm1:=hide (cm.out hbk w2 B2.out)
 clear hb2 cp1 X1 c1 l1 cm
 go_wp2_with (go_at_call 21;refine Sto.out ?_)
 refine Sto.mk ?_
 refine cm1.out.mono ?_
 rintro e w3 ⟨hb3,hr|⟨_,b2,ys2,rfl,hnc⟩⟩
 ·exact absurd h2 hr.1
 subst h2
 have B3:=hide (below_then (below_al B2.out) hb3)
 have MP0:Hid (MP w b1 b2 L (⟨bareH (lf 4),[1]⟩ :: L.map shN) 0 w3):=by
  have hn1:=N1.out
  have z2:=hn1.row
  obtain ⟨cu,hcu,_⟩:=hn1.row
  have hlt:=(Array.getElem?_eq_some_iff.1 hcu).1
  refine ⟨B3.out,⟨ys1,?_⟩,⟨ys2,hnc.mono (by have:=B2.out.size;simp;omega)⟩,by have:=hnc.lo;simp at this;omega⟩
  have e:shT 0 L=L:=by simp [shT]
  rw [e]
  exact (hn1.below (below_al (Below.refl _ _))).below hb3
 obtain ⟨g0,k0,m1,m2,m3,m4⟩:=m0_cells hnc
 have hMi:(1:Int)≤(M:Int):=by have:=M1.out.1;omega
 have hM0:(0:Int)<((M + 1:Nat):Int):=by omega
 have LM:=hide hLM
 clear hb3 cm1 hnc N1 X2 c2 l2
 go_wp2_with fail
 go_loopw [7] (fun i W=>∃ k:Nat,i=.int .i64 k∧k≤M∧Hid (MP w b1 b2 L (⟨bareH (lf 4),[1]⟩ :: L.map shN) k W)) (fun i _=>M - (intOf i).toNat)
 case atStart=>exact ⟨0,rfl,Nat.zero_le _,MP0.out⟩
 case round =>
  clear MP0 m1 m2 m3 m4
  obtain ⟨k,rfl,hk,H⟩:=hrel
  by_cases hkl:k<M
  ·have hki:(k:Int)<(M:Int):=by omega
   have hk0:(0:Int)≤(k:Int):=by omega
   have hkL:k<L.length:=by have:=LM.out;omega
   obtain ⟨ls,ho,hcell,hfrz⟩:=H.out.node hkL
   obtain ⟨ka,kc,rfl⟩:=row_shapeN ho
   have hb1l:b1<wr.heap.size:=by
    obtain ⟨ys,hy⟩:=H.out.l
    obtain ⟨cu,hcu,_⟩:=hy.row
    exact (Array.getElem?_eq_some_iff.1 hcu).1
   have KK:=hide (KO.out k hkL)
   have HO:=hide ho
   have KG2:=KG.out hbk k hkL
   obtain ⟨ks,hks⟩:∃ ks,L[k].kids=ks:=⟨_,rfl⟩
   rw [hks] at hcell KK HO KG2
   have HKS:=hide hks
   have HC0:=hide hcell
   have HF0:=hide hfrz
   clear ho hks
   go_wp2_with fail
   go_loopw [8,9] (fun kv j W=>∃ (t:Nat) (va:Option Addr) (vc:Nat),j=.int .i64 t∧kv=.slice va t vc∧t≤ks.length∧Hid (OwnZ W wr.heap.size (.slice va t vc) ((ks.take t).map (· + 1))∧Below wr.heap.size wr W)) (fun _ j _=>ks.length - (intOf j).toNat)
   case atStart=>exact ⟨0,none,0,rfl,rfl,Nat.zero_le _,World.ownsRow_nil _ _ _ _,Below.refl _ _⟩
   case round =>
    clear hcell hfrz
    obtain ⟨t,va,vc,rfl,rfl,ht,I⟩:=hrel
    obtain ⟨hown,hbw⟩:=I.out
    have hcell:=(hbw.cell (p:=⟨b1,k * 13 + 3,none⟩) hb1l).trans HC0.out
    have hfrz:=(World.frozen?_of_block (a:=⟨b1,k * 13 + 3,none⟩) (hbw.block b1 hb1l)).trans HF0.out
    have ho:OwnZ wr w.heap.size (.slice ka ks.length kc) ks:=ownsRow_of HO.out fun j hj hl=>hbw.block j hl
    by_cases htl:t<ks.length
    ·have hti:(t:Int)<(ks.length:Int):=by omega
     have ht0:(0:Int)≤(t:Int):=by omega
     obtain ⟨gk',gc,he,hgc,hce⟩:=OwnZ.cells ho (by omega)
     obtain ⟨rfl, -,rfl⟩:=Value.slice.inj he
     have hkt:=hce t htl
     obtain ⟨q1,q2⟩:=KK.out ks[t] (List.getElem_mem htl)
     obtain ⟨z,hz⟩:∃ z,ks[t]=z:=⟨_,rfl⟩
     rw [hz] at hkt q1 q2
     have hlen:((ks.take t).map (· + 1)).length=t:=by rw [List.length_map,List.length_take];omega
     have hw1:IntKind.i64.wrap (z + 1)=z + 1:=by rw [IntKind.wrap_i64];have:=LM.out;omega
     have HL2:=hide hlen
     have HZ:=hide hz
     have OW:=hide hown
     have BW:=hide hbw
     clear he hce hz hlen hown hbw ho
     go_wp2_with (at_builtin;refine Sto.out ?_)
     refine Sto.mk ?_
     refine app_z rfl (.tmp 86) (.tmp 96) rfl _ (.slice va t vc) ((ks.take t).map (· + 1)) rfl (ownsRow_of OW.out fun j hj hl=>Below.heap_alloc _ _ _ hl) _ 1 rfl (z + 1) (cell_new1 rfl) (by rw [HL2.out];omega) (by have:=BW.out.size;simp;omega) ?_
     intro av c' w4 o4 g4 at4
     have B4:=hide ((BW.out.alloc BW.out.size _).grown g4.out (by have:=BW.out.size;simp;omega) (fun j hj=>(World.ownsRow.lt OW.out j hj).1))
     go_wp2_with fail
     refine ⟨⟨t + 1,av,c',by go_num,by first|rfl|rw [HL2.out],by omega,?_,B4.out⟩,by simp [intOf];omega⟩
     have o5:=o4.out
     rw [HL2.out] at o5
     rw [List.take_succ_eq_append_getElem htl,List.map_append,List.map_cons,List.map_nil,HZ.out]
     exact o5
    ·have hti:¬ (t:Int)<(ks.length:Int):=by omega
     obtain rfl:t=ks.length:=by omega
     have ST:=hide ((H.out.below hbw).step (v:=.slice va ks.length vc) hkL (by
      rw [HKS.out]
      have:=hown
      rw [List.take_length] at this
      exact ownRow_mono this H.out.bel.size))
     clear hown hbw ho
     go_wp2_with fail
     exact ⟨⟨k + 1,by go_num,by omega,ST.out⟩,by simp [intOf];omega⟩
  ·have hki:¬ (k:Int)<(M:Int):=by omega
   obtain rfl:k=M:=by omega
   have hend:shT k L=L.map shN:=by
    have:=LM.out
    unfold shT
    rw [List.take_of_length_le (by omega),List.drop_of_length_le (by omega),List.append_nil]
   have SM:=hide (fun W (hb:Below wr.heap.size wr W)=>(by
    obtain ⟨y1,h1⟩:=(H.out.below hb).l
    obtain ⟨y2,h2⟩:=(H.out.below hb).m
    rw [hend] at h1
    have e1:(L.map shN).length=k:=by rw [List.length_map];exact LM.out
    have r1:NdL W (.slice (some ⟨b1,0,none⟩) k k) (L.map shN):=by
     have:=h1.ndl (c:=k) (by omega) (by unfold maxLen;omega) (by rw [←HL.out];exact bare_rd2)
     rw [e1] at this
     exact this
    have r2:NdL W (.slice (some ⟨b2,13,none⟩) k k) (L.map shN):=by
     have:=h2.ndl_tail (c:=k) (by omega) (by unfold maxLen;omega) (by rw [←HL.out];exact bare_rd2)
     rw [e1] at this
     exact this
    exact nsame_any (L.map shN) _ _ W r2 r1:Calls Tryz.prog 24 #[.slice (some ⟨b2,13,none⟩) k k,.slice (some ⟨b1,0,none⟩) k k] W fun e w'=>e=.returned (.bool true)∧Below W.heap.size W w'))
   clear hend
   go_wp2_with (go_at_call 23;refine Sto.out ?_)
   refine Sto.mk ?_
   refine (aw.out _ H.out.bel).mono ?_
   rintro e w5 ⟨rfl,hb5⟩
   have B5:=hide (below_then H.out.bel hb5)
   have SC:=hide (SM.out w5 hb5)
   clear hb5 aw SM
   go_wp2_with (go_at_call 24;refine Sto.out ?_)
   refine Sto.mk ?_
   refine SC.out.mono ?_
   rintro e w6 ⟨rfl,hb6⟩
   have B6:=hide (below_then B5.out hb6)
   clear hb6 SC
   go_wp2_with fail
   go_ret
   exact ⟨rfl,B6.out⟩
theorem maps_law (hP:ParseOk) (gk:Nat) (hg:1005≤gk) (n:Nat) (x:ET n) (qx:Sl) (w:World) (g:Gs w) (rx:RE n w x qx) (zx:ESz n x):Calls Tryz.prog 8 #[.agg (ecl (ehd n x) qx)] w fun e w'=>e=.returned (.bool true)∧Below w.heap.size w w':=by
 have dq:{_f:(p:Prop)→Decidable p // True}:=⟨fun p=>Classical.propDecidable p,trivial⟩
 rcases mapE_lck (dq:=dq) x with ⟨a,b⟩|⟨a,c⟩
 ·exact maps_good hP gk hg n x qx w g rx zx dq _ _ rfl rfl b a
 ·by_cases h1:lck dq n x=0
  ·exact maps_far hP gk hg n x qx w g rx zx dq _ _ rfl rfl h1 (c.resolve_left fun e=>a (e.trans h1))
  ·exact maps_bad hP gk hg n x qx w g rx zx dq _ _ rfl rfl h1 a c
end Lx
end Go.Proofs.YtgicnopppgnjjaaGreatDoor
