/- Merged by program: TrMap. -/
import Derived.Test.YtgicnopppgnjjaaGreatDoorZd34
import Derived.Deep.RegionHeld3
set_option linter.unusedSimpArgs false
set_option linter.unusedVariables false
namespace Go.Proofs.YtgicnopppgnjjaaGreatDoor
namespace Lx
open Go.RowKit
theorem ex_nm {W:World} {i:Nat} {h:Eh} {q:Sl} (k:Ex W i h q):W.cell? ⟨i,1,none⟩=some (.string h.name):=k.cells.2.1
theorem ex_v9 {W:World} {i:Nat} {h:Eh} {q:Sl} (k:Ex W i h q):W.cell? ⟨i,4,none⟩=some (.int .i64 (vhd h.vn h.val).kind)∧W.cell? ⟨i,5,none⟩=some (.bool (vhd h.vn h.val).flag)∧W.cell? ⟨i,6,none⟩=some (.bool (vhd h.vn h.val).neg)∧W.cell? ⟨i,7,none⟩=some (.string (vhd h.vn h.val).dig)∧W.cell? ⟨i,8,none⟩=some (.int .i64 (vhd h.vn h.val).exp)∧W.cell? ⟨i,9,none⟩=some (.int .u64 (vhd h.vn h.val).bits)∧W.cell? ⟨i,10,none⟩=some (.string (vhd h.vn h.val).text)∧W.cell? ⟨i,11,none⟩=some q.vs∧W.cell? ⟨i,12,none⟩=some q.vl:=k.cells.2.2.2.2
theorem ex_nl {W:World} {i:Nat} {h:Eh} {q:Sl} (k:Ex W i h q):W.cell? ⟨i,2,none⟩=some q.ns∧W.cell? ⟨i,3,none⟩=some q.ls:=⟨k.cells.2.2.1,k.cells.2.2.2.1⟩
theorem Ex.dr {W:World} {i:Nat} {h:Eh} {q:Sl} (k:Ex W i h q):Ex W.drew i h q:=⟨k.at_⟩
theorem Ex.al {W:World} {i:Nat} {h:Eh} {q:Sl} {o:Obj} (k:Ex W i h q):Ex (W.alloc o) i h q:=k.below (below_al (Below.refl _ _))
theorem step_tks {ops:Array Oper} {o:Oper} {a:Act} {W:World} {K:Act→World→Prop} {Q:Exit→Act→World→Prop} {E:Prop} (hgd:o.guard=none) (s x:Operand) (ho:o.op=.call {callee:=.builtin .append,args:=#[s,x],argTypes:=#[71,71]})
  (B:Nat) (v:Value) (l:List Tk) (hs:a.eval s=v) (hown:OT W B v l) (C:Nat) (u:Value) (m:List Tk) (hx:a.eval x=u) (hu:OT W C u m) (hk:l.length + m.length≤3000000) (hB:B≤W.heap.size)
  (h:∀ ta tn tc w',Hid (OT w' B (.slice ta tn tc) (l++m))→Hid (Below B W w')→K (a.put o.dst (.slice ta tn tc)) w') :
  if Region.wanted o (yielded ops a.tmps)=true then Oper.wp Tryz.prog o a W K Q else E:=by
 have hw:Region.wanted o (yielded ops a.tmps)=true:=by simp [Region.wanted,hgd]
 rw [if_pos hw]
 obtain ⟨i0,hi,hz0,hz1,hz2⟩:=info_parts infoK
 rcases id hu.2 with ⟨hu0,e0⟩|⟨g,cap,cur,hu0,_⟩
 ·have hf:m=[]:=List.eq_nil_of_length_eq_zero (by rw [←e0])
  subst hf
  have hr:=run_append_owned_none (P:=Tryz.prog) W B 71 o.type 110 i0 3 Tryz.underlying71 hi v l.length (tcs l) hown
  rw [hu0] at hx
  unfold Oper.wp execOp
  simp only [ho,resolve,invoke,builtin,Sem.run_bind,Sem.run_pure,Result.andThen_ok,List.map_toArray,List.map_cons,List.map_nil,hs,hx,hr]
  obtain ⟨ta,tc,rfl⟩:=hown.shape
  exact h ta _ tc W (show OT _ _ _ _ by simpa using hown) (Below.refl _ _)
 ·have hu2:=hu
  unfold OT at hu2
  rw [hu0] at hx hu2
  obtain ⟨v',w',hr,h1,h2,h3,h4⟩:=run_append_own_at (P:=Tryz.prog) W B 71 o.type 110 i0 _ 3 32 Tryz.underlying71 hi hz0 hz1 hz2 rfl (by decide) v l.length (tcs l) hown ⟨g,0,none⟩ m.length cap (tcs m) (by rw [tcs_len];omega) (row_newsT hu2) (tcs_cell _) (by unfold maxLen;omega) (by omega) hB
  unfold Oper.wp execOp
  simp only [ho,resolve,invoke,builtin,Sem.run_bind,Sem.run_pure,Result.andThen_ok,List.map_toArray,List.map_cons,List.map_nil,hs,hx,hr]
  rw [←tcs_app] at h1
  have h1':OT w' B v' (l++m):=by unfold OT;rw [List.length_append];exact h1
  obtain ⟨ta,tc,rfl⟩:=h1'.shape
  exact h ta _ tc w' h1' ((Below.refl B W).grown h2 hB fun k hk=>(World.ownsRow.lt hown k hk).1)
section
variable {n : Nat} {nm : ByteArray} {nms : List ByteArray} {vn : Nat} {val : VT vn} {l : List (ET n)} {q : Sl} {w : World}
set_option maxHeartbeats 4000000 in
set_option maxRecDepth 100000 in
theorem mapTok_2 (hP:ParseOk) (hr:RE (n + 1) w (⟨2,nm,nms,vn,val⟩,l) q) (hs:nm.size≤60000) (g:Gs w) :
  Calls Tryz.prog 86 #[.agg (ecl ⟨2,nm,nms,vn,val⟩ q)] w fun e w'=>TokP [mk [46],ntk (bl nm)] w e w':=by
 obtain ⟨x1,y1,z1,x2,y2,z2,x3,y3,z3,x4,y4,z4,hqs⟩:=hr.shape
 subst hqs
 have X0:=hide (ex_new w ⟨2,nm,nms,vn,val⟩ ⟨.slice x1 y1 z1,.slice x2 y2 z2,.slice x3 y3 z3,.slice x4 y4 z4⟩)
 have B0:Hid (∀ o,Below w.heap.size w (w.alloc o)):=fun o=>below_al (Below.refl _ _)
 have hn:=hide (fun W (hb:Below w.heap.size w W)=>name_any2 hP nm W (g.below hb).gg hs)
 clear hr hs g hP
 obtain ⟨T,hT⟩:∃ T,ntk (bl nm)=T:=⟨_,rfl⟩
 rw [hT] at hn ⊢
 clear hT
 unfold ecl at X0 ⊢
 dsimp only at X0 ⊢
 unfold tkV at hn
 go_enter Tryz.func86, Tryz.ntmps86
 go_wp2_with fail
 have c0:=ex_nm X0.out
 dsimp only at c0
 go_region_held3 (fun W=>W.cell? ⟨w.heap.size,1,none⟩=some (.string nm)) (first|(refine ex_nm (h:=⟨2,nm,nms,vn,val⟩) (q:=⟨.slice x1 y1 z1,.slice x2 y2 z2,.slice x3 y3 z3,.slice x4 y4 z4⟩) ?_;(repeat (first|with_reducible (exact X0.out)|with_reducible (exact X1.out)|with_reducible (exact X2.out)|with_reducible (exact X3.out)|with_reducible (refine Ex.dr ?_)|with_reducible (refine Ex.al ?_))))) (first|(go_at_call 144;refine (mark_any _ _).mono ?_;rintro e w1 ⟨rfl,hb1⟩;have B1:=hide (below_then (B0.out _).drew hb1);have X1:=hide (X0.out.dr.below hb1);clear hb1)|(go_at_call 145;refine (hn.out _ B1.out).mono ?_;rintro e w2 ⟨rfl,hb2⟩;have B2:=hide (below_then B1.out hb2);have X2:=hide (X1.out.below hb2);clear hb2))
 go_wp2_with fail
 go_ret
 exact ⟨_,rfl,tk_new2 w2 w.heap.size (mk [46]) T B2.out.size,B2.out.alloc B2.out.size _⟩
set_option maxHeartbeats 4000000 in
set_option maxRecDepth 100000 in
theorem mapTok_5 (hP:ParseOk) (hr:RE (n + 1) w (⟨5,nm,nms,vn,val⟩,l) q) (hs:nm.size≤60000) (g:Gs w) :
  Calls Tryz.prog 86 #[.agg (ecl ⟨5,nm,nms,vn,val⟩ q)] w fun e w'=>TokP [wd [116,97,103],ntk (bl nm)] w e w':=by
 obtain ⟨x1,y1,z1,x2,y2,z2,x3,y3,z3,x4,y4,z4,hqs⟩:=hr.shape
 subst hqs
 have X0:=hide (ex_new w ⟨5,nm,nms,vn,val⟩ ⟨.slice x1 y1 z1,.slice x2 y2 z2,.slice x3 y3 z3,.slice x4 y4 z4⟩)
 have B0:Hid (∀ o,Below w.heap.size w (w.alloc o)):=fun o=>below_al (Below.refl _ _)
 have hn:=hide (fun W (hb:Below w.heap.size w W)=>name_any2 hP nm W (g.below hb).gg hs)
 clear hr hs g hP
 obtain ⟨T,hT⟩:∃ T,ntk (bl nm)=T:=⟨_,rfl⟩
 rw [hT] at hn ⊢
 clear hT
 unfold ecl at X0 ⊢
 dsimp only at X0 ⊢
 unfold tkV at hn
 go_enter Tryz.func86, Tryz.ntmps86
 go_wp2_with fail
 have c0:=ex_nm X0.out
 dsimp only at c0
 go_region_held3 (fun W=>W.cell? ⟨w.heap.size,1,none⟩=some (.string nm)) (first|(refine ex_nm (h:=⟨5,nm,nms,vn,val⟩) (q:=⟨.slice x1 y1 z1,.slice x2 y2 z2,.slice x3 y3 z3,.slice x4 y4 z4⟩) ?_;(repeat (first|with_reducible (exact X0.out)|with_reducible (exact X1.out)|with_reducible (exact X2.out)|with_reducible (exact X3.out)|with_reducible (refine Ex.dr ?_)|with_reducible (refine Ex.al ?_))))) (first|(go_at_call 108;refine (word_any _ _).mono ?_;rintro e w1 ⟨rfl,hb1⟩;have B1:=hide (below_then (B0.out _).drew hb1);have X1:=hide (X0.out.dr.below hb1);clear hb1)|(go_at_call 145;refine (hn.out _ B1.out).mono ?_;rintro e w2 ⟨rfl,hb2⟩;have B2:=hide (below_then B1.out hb2);have X2:=hide (X1.out.below hb2);clear hb2))
 go_wp2_with fail
 go_ret
 exact ⟨_,rfl,tk_new2 w2 w.heap.size (wd [116,97,103]) T B2.out.size,B2.out.alloc B2.out.size _⟩
set_option maxHeartbeats 4000000 in
set_option maxRecDepth 100000 in
theorem mapTok_7 (hr:RE (n + 1) w (⟨7,nm,nms,vn,val⟩,l) q) (hv:(vhd vn val).kind=3→isN (vhd vn val).neg (vhd vn val).dig (vhd vn val).exp=true) (g:Gs w) :
  Calls Tryz.prog 86 #[.agg (ecl ⟨7,nm,nms,vn,val⟩ q)] w fun e w'=>TokP [wd [99,111,110,115,116],ctk (vhd vn val)] w e w':=by
 obtain ⟨x1,y1,z1,x2,y2,z2,x3,y3,z3,x4,y4,z4,hqs⟩:=hr.shape
 subst hqs
 have X0:=hide (ex_new w ⟨7,nm,nms,vn,val⟩ ⟨.slice x1 y1 z1,.slice x2 y2 z2,.slice x3 y3 z3,.slice x4 y4 z4⟩)
 have B0:Hid (∀ o,Below w.heap.size w (w.alloc o)):=fun o=>below_al (Below.refl _ _)
 have hn:=hide (fun W (hb:Below w.heap.size w W)=>const_tok (vhd vn val) x3 y3 z3 x4 y4 z4 W (g.below hb) hv)
 clear hr hv g
 obtain ⟨h,hh⟩:∃ h,vhd vn val=h:=⟨_,rfl⟩
 unfold ecl at X0 ⊢
 dsimp only at X0 ⊢
 have c0:=ex_v9 X0.out
 dsimp only at c0
 obtain ⟨T,hT⟩:∃ T,ctk (vhd vn val)=T:=⟨_,rfl⟩
 rw [hT] at hn ⊢
 clear hT hh
 unfold tkV vals at hn
 go_enter Tryz.func86, Tryz.ntmps86
 go_wp2_with fail
 go_region_held3 (fun W=>W.cell? ⟨w.heap.size,4,none⟩=some (.int .i64 (vhd vn val).kind)∧W.cell? ⟨w.heap.size,5,none⟩=some (.bool (vhd vn val).flag)∧W.cell? ⟨w.heap.size,6,none⟩=some (.bool (vhd vn val).neg)∧W.cell? ⟨w.heap.size,7,none⟩=some (.string (vhd vn val).dig)∧W.cell? ⟨w.heap.size,8,none⟩=some (.int .i64 (vhd vn val).exp)∧W.cell? ⟨w.heap.size,9,none⟩=some (.int .u64 (vhd vn val).bits)∧W.cell? ⟨w.heap.size,10,none⟩=some (.string (vhd vn val).text)∧W.cell? ⟨w.heap.size,11,none⟩=some (.slice x3 y3 z3)∧W.cell? ⟨w.heap.size,12,none⟩=some (.slice x4 y4 z4)) (first|(refine ex_v9 (h:=⟨7,nm,nms,vn,val⟩) (q:=⟨.slice x1 y1 z1,.slice x2 y2 z2,.slice x3 y3 z3,.slice x4 y4 z4⟩) ?_;(repeat (first|with_reducible (exact X0.out)|with_reducible (exact X1.out)|with_reducible (exact X2.out)|with_reducible (exact X3.out)|with_reducible (refine Ex.dr ?_)|with_reducible (refine Ex.al ?_))))) (first|(go_at_call 108;refine (word_any _ _).mono ?_;rintro e w1 ⟨rfl,hb1⟩;have B1:=hide (below_then (B0.out _).drew hb1);have X1:=hide (X0.out.dr.below hb1);clear hb1)|(go_at_call 146;refine (hn.out _ B1.out).mono ?_;rintro e w2 ⟨rfl,hb2⟩;have B2:=hide (below_then B1.out hb2);have X2:=hide (X1.out.below hb2);clear hb2))
 go_wp2_with fail
 go_ret
 exact ⟨_,rfl,tk_new2 w2 w.heap.size (wd [99,111,110,115,116]) T B2.out.size,B2.out.alloc B2.out.size _⟩
set_option maxHeartbeats 4000000 in
set_option maxRecDepth 100000 in
theorem mapTok_4 (ih:ToOk n) (hr:RE (n + 1) w (⟨4,nm,nms,vn,val⟩,l) q) (h1:l.length=1) (hp:∀ y∈l,PrE n y) (hz:(btw [91] ((l.map (mtk n)).headD []) [93]).length≤1000000) (g:Gs w) :
  Calls Tryz.prog 86 #[.agg (ecl ⟨4,nm,nms,vn,val⟩ q)] w fun e w'=>TokP (btw [91] ((l.map (mtk n)).headD []) [93]) w e w':=by
 obtain ⟨y,rfl⟩:∃ y,l=[y]:=by
  match l,h1 with
  | [y],_=>exact ⟨y,rfl⟩
 obtain ⟨lb,lo,lc9,hle,hlb,hlc1,hlc2,q2,hrg,hrd⟩:=hr.tl.at 0 (by simp)
 simp only [List.map_cons,List.map_nil,List.headD_cons,List.getElem_cons_zero,Nat.zero_mul,Nat.add_zero] at hz hrg hrd ⊢
 have hml:Hid ((mtk n y).length≤1000000):=by show _≤_;simp only [btw,List.length_cons,List.length_append] at hz;omega
 obtain ⟨x1,y1,z1,x2,y2,z2,x3,y3,z3,x4,y4,z4,hqs⟩:=hr.shape
 subst hqs
 have X0:=hide (ex_new w ⟨4,nm,nms,vn,val⟩ ⟨.slice x1 y1 z1,.slice x2 y2 z2,.slice x3 y3 z3,.slice x4 y4 z4⟩)
 have B0:Hid (∀ o,Below w.heap.size w (w.alloc o)):=fun o=>below_al (Below.refl _ _)
 dsimp only at hle
 obtain ⟨rfl,rfl,rfl⟩:=Value.slice.inj hle
 clear hle
 obtain ⟨b1,b2,b3,b4,b5,b6,b7,b8,b9,b10,b11,b12,hqs⟩:=hrd.shape
 subst hqs
 have q0:=range13 (rangeAt_below hrg (B0.out (.cells (ecl ⟨4,nm,nms,vn,val⟩ ⟨.slice x1 y1 z1,.slice (some ⟨lb,lo,none⟩) ([y]:List (ET n)).length z2,.slice x3 y3 z3,.slice x4 y4 z4⟩) 33)) hlb)
 have hcall:=hide (fun W (hb:Below w.heap.size w W)=>ih y _ W (hrd.below hb) (hp y (by simp)) hml.out (g.below hb))
 clear hr hrg hrd hp ih g hz hlb hlc1 hlc2
 obtain ⟨h,hh⟩:∃ h,ehd n y=h:=⟨_,rfl⟩
 rw [hh] at hcall q0
 clear hh
 unfold ecl at X0 q0 hcall ⊢
 unfold TokP at hcall
 simp only [List.length_cons,List.length_nil] at X0 q0 ⊢
 go_enter Tryz.func86, Tryz.ntmps86
 go_wp2_with (go_at_call 86;refine Sto.out ?_)
 refine Sto.mk ?_
 refine (hcall.out _ (B0.out _)).mono ?_
 rintro e w1 ⟨v,rfl,hO,hb1⟩
 have B1:=hide (below_then (B0.out _) hb1)
 have hbt:=hide (between_any [91] [93] v _ _ w1 hO hml.out)
 unfold TokP at hbt
 clear hO hb1 hcall q0
 go_wp2_with (go_at_call 109;refine Sto.out ?_)
 refine Sto.mk ?_
 refine hbt.out.mono ?_
 rintro e w2 ⟨v2,rfl,hO2,hb2⟩
 have B2:=hide (below_then B1.out hb2)
 have H2:=hide hO2
 have z1:=B1.out.size
 clear hO2 hb2 hbt
 go_wp2_with fail
 go_ret
 exact ⟨_,rfl,H2.out.low z1,B2.out⟩
set_option maxHeartbeats 4000000 in
set_option maxRecDepth 100000 in
theorem mapTok_3 (hP:ParseOk) (ih:ToOk n) (hr:RE (n + 1) w (⟨3,nm,nms,vn,val⟩,l) q) (h1:nms.length=l.length) (hs:∀ s∈nms,s.size≤60000) (hp:∀ y∈l,PrE n y) (hl9:l.length≤100000) (hz:(nmd [61] nms (l.map (mtk n))).length≤1000000) (g:Gs w) :
  Calls Tryz.prog 86 #[.agg (ecl ⟨3,nm,nms,vn,val⟩ q)] w fun e w'=>TokP (nmd [61] nms (l.map (mtk n))) w e w':=by
 obtain ⟨x1,y1,z1,x2,y2,z2,x3,y3,z3,x4,y4,z4,hqs⟩:=hr.shape
 subst hqs
 have X0:=hide (ex_new w ⟨3,nm,nms,vn,val⟩ ⟨.slice x1 y1 z1,.slice x2 y2 z2,.slice x3 y3 z3,.slice x4 y4 z4⟩)
 have B0:Hid (∀ o,Below w.heap.size w (w.alloc o)):=fun o=>below_al (Below.refl _ _)
 have hc:=hide (fun W (hb:Below w.heap.size w W)=>namedTok_any ih hP [61] _ _ nms l W (g.below hb) (hr.1.below hb) (hr.tl.below hb) h1 hs hp hz hl9)
 clear hr hs g hP hp ih hz h1
 obtain ⟨T,hT⟩:∃ T,nmd [61] nms (l.map (mtk n))=T:=⟨_,rfl⟩
 rw [hT] at hc ⊢
 clear hT
 unfold ecl at X0 ⊢
 dsimp only at X0 hc ⊢
 unfold TokP at hc
 have c0:=ex_nl X0.out
 dsimp only at c0
 go_enter Tryz.func86, Tryz.ntmps86
 go_wp2_with (go_at_call 147;refine Sto.out ?_)
 refine Sto.mk ?_
 refine (hc.out _ (B0.out _)).mono ?_
 rintro e w1 ⟨v,rfl,hO,hb1⟩
 have B1:=hide (below_then (B0.out _) hb1)
 have O1:=hide hO
 clear hO hb1 hc
 go_wp2_with fail
 go_ret
 exact ⟨_,rfl,O1.out.low (B0.out _).size,B1.out⟩
set_option maxHeartbeats 4000000 in
set_option maxRecDepth 100000 in
theorem mapTok_12 (ih:ToOk n) (hr:RE (n + 1) w (⟨12,nm,nms,vn,val⟩,l) q) (hp:∀ y∈l,PrE n y) (hl9:l.length≤100000) (hz:(sepT (mk [59]) (l.map (stk n))).length≤1000000) (g:Gs w) :
  Calls Tryz.prog 86 #[.agg (ecl ⟨12,nm,nms,vn,val⟩ q)] w fun e w'=>TokP (sepT (mk [59]) (l.map (stk n))) w e w':=by
 obtain ⟨x1,y1,z1,x2,y2,z2,x3,y3,z3,x4,y4,z4,hqs⟩:=hr.shape
 subst hqs
 have X0:=hide (ex_new w ⟨12,nm,nms,vn,val⟩ ⟨.slice x1 y1 z1,.slice x2 y2 z2,.slice x3 y3 z3,.slice x4 y4 z4⟩)
 have B0:Hid (∀ o,Below w.heap.size w (w.alloc o)):=fun o=>below_al (Below.refl _ _)
 have hc:=hide (fun W (hb:Below w.heap.size w W)=>pipeTok_any ih _ l W (g.below hb) (hr.tl.below hb) hp hz hl9)
 clear hr g hp ih hz
 obtain ⟨T,hT⟩:∃ T,sepT (mk [59]) (l.map (stk n))=T:=⟨_,rfl⟩
 rw [hT] at hc ⊢
 clear hT
 unfold ecl at X0 ⊢
 dsimp only at X0 hc ⊢
 unfold TokP at hc
 have c0:=ex_nl X0.out
 dsimp only at c0
 go_enter Tryz.func86, Tryz.ntmps86
 go_wp2_with (go_at_call 148;refine Sto.out ?_)
 refine Sto.mk ?_
 refine (hc.out _ (B0.out _)).mono ?_
 rintro e w1 ⟨v,rfl,hO,hb1⟩
 have B1:=hide (below_then (B0.out _) hb1)
 have O1:=hide hO
 clear hO hb1 hc
 go_wp2_with fail
 go_ret
 exact ⟨_,rfl,O1.out.low (B0.out _).size,B1.out⟩
set_option maxHeartbeats 4000000 in
set_option maxRecDepth 100000 in
theorem mapTok_6 (hP:ParseOk) (ih:ToOk n) (hr:RE (n + 1) w (⟨6,nm,nms,vn,val⟩,l) q) (h1:nms.length=l.length) (hs:∀ s∈nms,s.size≤60000) (hp:∀ y∈l,PrE n y) (hl9:l.length≤100000) (hz:(nmd [61] nms (l.map (mtk n))).length≤1000000) (g:Gs w) :
  Calls Tryz.prog 86 #[.agg (ecl ⟨6,nm,nms,vn,val⟩ q)] w fun e w'=>TokP (wd [99,97,115,101] :: nmd [61] nms (l.map (mtk n))) w e w':=by
 obtain ⟨x1,y1,z1,x2,y2,z2,x3,y3,z3,x4,y4,z4,hqs⟩:=hr.shape
 subst hqs
 have X0:=hide (ex_new w ⟨6,nm,nms,vn,val⟩ ⟨.slice x1 y1 z1,.slice x2 y2 z2,.slice x3 y3 z3,.slice x4 y4 z4⟩)
 have B0:Hid (∀ o,Below w.heap.size w (w.alloc o)):=fun o=>below_al (Below.refl _ _)
 have hc:=hide (fun W (hb:Below w.heap.size w W)=>namedTok_any ih hP [61] _ _ nms l W (g.below hb) (hr.1.below hb) (hr.tl.below hb) h1 hs hp hz hl9)
 clear hr hs g hP hp ih h1
 obtain ⟨T,hT⟩:∃ T,nmd [61] nms (l.map (mtk n))=T:=⟨_,rfl⟩
 rw [hT] at hc hz ⊢
 have HZ:=hide hz
 clear hT hz
 unfold ecl at X0 ⊢
 dsimp only at X0 hc ⊢
 unfold TokP at hc
 have c0:=ex_nl X0.out
 dsimp only at c0
 go_enter Tryz.func86, Tryz.ntmps86
 go_wp2_with fail
 go_region_held3 (fun W=>W.cell? ⟨w.heap.size,2,none⟩=some (.slice x1 y1 z1)∧W.cell? ⟨w.heap.size,3,none⟩=some (.slice x2 y2 z2)) (first|(refine ex_nl (h:=⟨6,nm,nms,vn,val⟩) (q:=⟨.slice x1 y1 z1,.slice x2 y2 z2,.slice x3 y3 z3,.slice x4 y4 z4⟩) ?_;(repeat (first|with_reducible (exact X0.out)|with_reducible (exact X1.out)|with_reducible (exact X2.out)|with_reducible (exact X3.out)|with_reducible (refine Ex.dr ?_)|with_reducible (refine Ex.al ?_))))) (first|(go_at_call 108;refine (word_any _ _).mono ?_;rintro e w1 ⟨rfl,hb1⟩;have B1:=hide (below_then (B0.out _).drew hb1);have X1:=hide (X0.out.dr.below hb1);clear hb1)|(go_at_call 147;refine (hc.out _ B1.out).mono ?_;rintro e w2 ⟨v2,rfl,hO2,hb2⟩;have B2:=hide (below_then B1.out hb2);have X2:=hide (X1.out.below hb2);have O2:=hide (hO2.low B1.out.size);have N2:=hide (tk_new w2 (w.heap.size + 1) (wd [99,97,115,101]) X2.out.lt);clear hb2 hO2)|(go_at_call 147;refine (hc.out _ (B1.out.alloc B1.out.size _)).mono ?_;rintro e w2 ⟨v2,rfl,hO2,hb2⟩;have B2:=hide (below_then (B1.out.alloc B1.out.size _) hb2);have X2:=hide (X1.out.al.below hb2);have O2:=hide (hO2.low (C:=w.heap.size) (by simp only [World.size_alloc];have:=B1.out.size;omega));have N2:=hide ((tk_new w1 (w.heap.size + 1) (wd [99,97,115,101]) X1.out.lt).below hb2);clear hb2 hO2)|(refine step_tks rfl (.tmp 44) (.tmp 49) rfl (w.heap.size + 1) _ [wd [99,97,115,101]] rfl N2.out w.heap.size _ T rfl O2.out (by have:=HZ.out;simp only [List.length_cons,List.length_nil];omega) X2.out.lt ?_;intro ta tn tc w3 o3 b3;have X3:=hide (Ex.mk ((b3.out.block w.heap.size (by omega)).trans X2.out.at_)))|(refine step_tks rfl (.tmp 44) (.tmp 49) rfl (w.heap.size + 1) _ [wd [99,97,115,101]] rfl N2.out w.heap.size _ T rfl (O2.out.below (below_al (Below.refl _ _))) (by have:=HZ.out;simp only [List.length_cons,List.length_nil];omega) X2.out.al.lt ?_;intro ta tn tc w3 o3 b3;have X3:=hide (Ex.mk ((b3.out.block w.heap.size (by omega)).trans X2.out.al.at_))))
 all_goals
  go_wp2_with fail
  go_ret
  exact ⟨_,rfl,(OT.low (C:=w.heap.size) o3.out (by omega)),(by first|exact B2.out.trans (b3.out.mono (by omega))|exact (B2.out.alloc B2.out.size _).trans (b3.out.mono (by omega)))⟩
set_option maxHeartbeats 4000000 in
set_option maxRecDepth 100000 in
theorem mapTok_1 (hr:RE (n + 1) w (⟨1,nm,nms,vn,val⟩,l) q) (g:Gs w) :
  Calls Tryz.prog 86 #[.agg (ecl ⟨1,nm,nms,vn,val⟩ q)] w fun e w'=>TokP [wd [105,100]] w e w':=by
 obtain ⟨x1,y1,z1,x2,y2,z2,x3,y3,z3,x4,y4,z4,hqs⟩:=hr.shape
 subst hqs
 have X0:=hide (ex_new w ⟨1,nm,nms,vn,val⟩ ⟨.slice x1 y1 z1,.slice x2 y2 z2,.slice x3 y3 z3,.slice x4 y4 z4⟩)
 have B0:Hid (∀ o,Below w.heap.size w (w.alloc o)):=fun o=>below_al (Below.refl _ _)
 have c1:∀ o,(w.alloc o).cell? ⟨3,1,none⟩=some (.string ⟨#[105,100]⟩):=fun o=>by
  obtain ⟨t,fr,hc⟩:=(g.below (below_al (o:=o) (Below.refl _ _))).gp
  unfold World.cell?
  rw [hc]
  rfl
 clear hr g
 unfold ecl at X0 ⊢
 dsimp only at X0 ⊢
 go_enter Tryz.func86, Tryz.ntmps86
 go_wp2_with (go_at_call 108;refine Sto.out ?_)
 refine Sto.mk ?_
 refine (word_any _ _).mono ?_
 rintro e w1 ⟨rfl,hb1⟩
 have B1:=hide (below_then (B0.out _) hb1)
 clear hb1 c1
 go_wp2_with fail
 go_ret
 exact ⟨_,rfl,tk_new w1 w.heap.size (wd [105,100]) B1.out.size,B1.out.alloc B1.out.size _⟩
set_option maxHeartbeats 4000000 in
set_option maxRecDepth 100000 in
theorem mapTok_8 (hr:RE (n + 1) w (⟨8,nm,nms,vn,val⟩,l) q) (g:Gs w) :
  Calls Tryz.prog 86 #[.agg (ecl ⟨8,nm,nms,vn,val⟩ q)] w fun e w'=>TokP [wd [116,111,116,101,120,116]] w e w':=by
 obtain ⟨x1,y1,z1,x2,y2,z2,x3,y3,z3,x4,y4,z4,hqs⟩:=hr.shape
 subst hqs
 have X0:=hide (ex_new w ⟨8,nm,nms,vn,val⟩ ⟨.slice x1 y1 z1,.slice x2 y2 z2,.slice x3 y3 z3,.slice x4 y4 z4⟩)
 have B0:Hid (∀ o,Below w.heap.size w (w.alloc o)):=fun o=>below_al (Below.refl _ _)
 have c1:∀ o,(w.alloc o).cell? ⟨3,8,none⟩=some (.string ⟨#[116,111,116,101,120,116]⟩):=fun o=>by
  obtain ⟨t,fr,hc⟩:=(g.below (below_al (o:=o) (Below.refl _ _))).gp
  unfold World.cell?
  rw [hc]
  rfl
 clear hr g
 unfold ecl at X0 ⊢
 dsimp only at X0 ⊢
 go_enter Tryz.func86, Tryz.ntmps86
 go_wp2_with (go_at_call 108;refine Sto.out ?_)
 refine Sto.mk ?_
 refine (word_any _ _).mono ?_
 rintro e w1 ⟨rfl,hb1⟩
 have B1:=hide (below_then (B0.out _) hb1)
 clear hb1 c1
 go_wp2_with fail
 go_ret
 exact ⟨_,rfl,tk_new w1 w.heap.size (wd [116,111,116,101,120,116]) B1.out.size,B1.out.alloc B1.out.size _⟩
set_option maxHeartbeats 4000000 in
set_option maxRecDepth 100000 in
theorem mapTok_9 (hr:RE (n + 1) w (⟨9,nm,nms,vn,val⟩,l) q) (g:Gs w) :
  Calls Tryz.prog 86 #[.agg (ecl ⟨9,nm,nms,vn,val⟩ q)] w fun e w'=>TokP [wd [116,111,110,117,109]] w e w':=by
 obtain ⟨x1,y1,z1,x2,y2,z2,x3,y3,z3,x4,y4,z4,hqs⟩:=hr.shape
 subst hqs
 have X0:=hide (ex_new w ⟨9,nm,nms,vn,val⟩ ⟨.slice x1 y1 z1,.slice x2 y2 z2,.slice x3 y3 z3,.slice x4 y4 z4⟩)
 have B0:Hid (∀ o,Below w.heap.size w (w.alloc o)):=fun o=>below_al (Below.refl _ _)
 have c1:∀ o,(w.alloc o).cell? ⟨3,9,none⟩=some (.string ⟨#[116,111,110,117,109]⟩):=fun o=>by
  obtain ⟨t,fr,hc⟩:=(g.below (below_al (o:=o) (Below.refl _ _))).gp
  unfold World.cell?
  rw [hc]
  rfl
 clear hr g
 unfold ecl at X0 ⊢
 dsimp only at X0 ⊢
 go_enter Tryz.func86, Tryz.ntmps86
 go_wp2_with (go_at_call 108;refine Sto.out ?_)
 refine Sto.mk ?_
 refine (word_any _ _).mono ?_
 rintro e w1 ⟨rfl,hb1⟩
 have B1:=hide (below_then (B0.out _) hb1)
 clear hb1 c1
 go_wp2_with fail
 go_ret
 exact ⟨_,rfl,tk_new w1 w.heap.size (wd [116,111,110,117,109]) B1.out.size,B1.out.alloc B1.out.size _⟩
set_option maxHeartbeats 4000000 in
set_option maxRecDepth 100000 in
theorem mapTok_10 (hr:RE (n + 1) w (⟨10,nm,nms,vn,val⟩,l) q) (g:Gs w) :
  Calls Tryz.prog 86 #[.agg (ecl ⟨10,nm,nms,vn,val⟩ q)] w fun e w'=>TokP [wd [115,117,109]] w e w':=by
 obtain ⟨x1,y1,z1,x2,y2,z2,x3,y3,z3,x4,y4,z4,hqs⟩:=hr.shape
 subst hqs
 have X0:=hide (ex_new w ⟨10,nm,nms,vn,val⟩ ⟨.slice x1 y1 z1,.slice x2 y2 z2,.slice x3 y3 z3,.slice x4 y4 z4⟩)
 have B0:Hid (∀ o,Below w.heap.size w (w.alloc o)):=fun o=>below_al (Below.refl _ _)
 have c1:∀ o,(w.alloc o).cell? ⟨3,10,none⟩=some (.string ⟨#[115,117,109]⟩):=fun o=>by
  obtain ⟨t,fr,hc⟩:=(g.below (below_al (o:=o) (Below.refl _ _))).gp
  unfold World.cell?
  rw [hc]
  rfl
 clear hr g
 unfold ecl at X0 ⊢
 dsimp only at X0 ⊢
 go_enter Tryz.func86, Tryz.ntmps86
 go_wp2_with (go_at_call 108;refine Sto.out ?_)
 refine Sto.mk ?_
 refine (word_any _ _).mono ?_
 rintro e w1 ⟨rfl,hb1⟩
 have B1:=hide (below_then (B0.out _) hb1)
 clear hb1 c1
 go_wp2_with fail
 go_ret
 exact ⟨_,rfl,tk_new w1 w.heap.size (wd [115,117,109]) B1.out.size,B1.out.alloc B1.out.size _⟩
set_option maxHeartbeats 4000000 in
set_option maxRecDepth 100000 in
theorem mapTok_11 (hr:RE (n + 1) w (⟨11,nm,nms,vn,val⟩,l) q) (g:Gs w) :
  Calls Tryz.prog 86 #[.agg (ecl ⟨11,nm,nms,vn,val⟩ q)] w fun e w'=>TokP [wd [99,111,117,110,116]] w e w':=by
 obtain ⟨x1,y1,z1,x2,y2,z2,x3,y3,z3,x4,y4,z4,hqs⟩:=hr.shape
 subst hqs
 have X0:=hide (ex_new w ⟨11,nm,nms,vn,val⟩ ⟨.slice x1 y1 z1,.slice x2 y2 z2,.slice x3 y3 z3,.slice x4 y4 z4⟩)
 have B0:Hid (∀ o,Below w.heap.size w (w.alloc o)):=fun o=>below_al (Below.refl _ _)
 have c1:∀ o,(w.alloc o).cell? ⟨3,11,none⟩=some (.string ⟨#[99,111,117,110,116]⟩):=fun o=>by
  obtain ⟨t,fr,hc⟩:=(g.below (below_al (o:=o) (Below.refl _ _))).gp
  unfold World.cell?
  rw [hc]
  rfl
 clear hr g
 unfold ecl at X0 ⊢
 dsimp only at X0 ⊢
 go_enter Tryz.func86, Tryz.ntmps86
 go_wp2_with (go_at_call 108;refine Sto.out ?_)
 refine Sto.mk ?_
 refine (word_any _ _).mono ?_
 rintro e w1 ⟨rfl,hb1⟩
 have B1:=hide (below_then (B0.out _) hb1)
 clear hb1 c1
 go_wp2_with fail
 go_ret
 exact ⟨_,rfl,tk_new w1 w.heap.size (wd [99,111,117,110,116]) B1.out.size,B1.out.alloc B1.out.size _⟩
end
end Lx
end Go.Proofs.YtgicnopppgnjjaaGreatDoor
