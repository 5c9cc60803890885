/- Merged by program: YzWrite, DuEx, DvAwake, DwNil. -/
import Derived.Test.YtdgehngffccjaaaGreatDoorZx21
import Derived.Test.YtdgehngffccjaaaGreatDoorZx39
import Derived.Lib.SlBytesConst
namespace Go.Proofs.YtdgehngffccjaaaGreatDoor
open Go.RowKit
set_option linter.unusedSimpArgs false
set_option linter.unusedVariables false
set_option maxHeartbeats 8000000
set_option maxRecDepth 100000 in
theorem wcatch_idle (p q:Addr) (w:World) :
  CallsD Tryz.prog 48 #[.pointer (some p),.pointer (some q)] .returning w fun e u' w'=>e=.returned (.tuple #[])∧u'=.returning∧w'=w:=by
 refine callsD_of_wpS Tryz.func48 rfl fun c₀ cs hu=>?_
 apply wpS_seq
 apply wpS_region
 simp [wpOpsS,go_sem,recoverD,hu,Tryz.ntmps48,Exit.thenS,ta_nil]
 apply wpS_seq
 apply wpS_region
 simp [wpOpsS,go_sem,Exit.thenS,Array.replicate]
 refine wpS_cond (t:=false) (by simp [Act.eval,Array.replicate]) ?_
 simp only [Bool.false_eq_true,if_false]
 refine wpS_of_wp (wp_skip ?_)
 cases c₀
 simp_all [bodyPostS,results,Tryz.results48]
set_option maxRecDepth 100000 in
theorem wcatch_pan (p q:Addr) (x:Int) (v:Value) (older:List PanicEntry) (w:World) (hc:w.cell? p=some v) (hz:w.frozen? p=false) (hc2:w.cell? q=some (.int .i64 x)) (hz2:w.frozen? q=false) (hpq:p≠q) (E:Int) :
  CallsD Tryz.prog 48 #[.pointer (some p),.pointer (some q)] (.panicking ({v:=.iface 25 (.int .i64 E),recovered:=false} :: older)) w fun e u' w' =>
   e=.returned (.tuple #[])∧u'=.panicking ({v:=.iface 25 (.int .i64 E),recovered:=true} :: older)∧w'=(w.setCell p (.slice none 0 0)).setCell q (.int .i64 E):=by
 have hc3:(w.setCell p (.slice none 0 0)).cell? q=some (.int .i64 x):=by rw [World.cell?_setCell_other _ _ _ _ hpq];exact hc2
 refine callsD_of_wpS Tryz.func48 rfl fun c₀ cs hu=>?_
 apply wpS_seq
 apply wpS_region
 simp [wpOpsS,go_sem,recoverD,hu,Tryz.ntmps48,Exit.thenS,ta_err]
 apply wpS_seq
 apply wpS_region
 simp [wpOpsS,go_sem,Exit.thenS,Array.replicate]
 refine wpS_cond (t:=true) (by simp [Act.eval,Array.replicate]) ?_
 simp only [if_true]
 apply wpS_region
 simp [wpOpsS,go_sem,hc,hz,hc3,hz2,bodyPostS,results,Tryz.results48]
set_option maxRecDepth 100000 in
theorem xlay (n:Nat) (x:VT n) (ns ls:Value) (w0 W:World) (i:Nat) (hc:Vx n x ns ls w0 i W) (hW:WB W i []):Calls Tryz.prog 29 #[.pointer (some ⟨i,0,none⟩),.agg (vals (vhd n x) ns ls)] W fun e w'=>WO i [] (xtx n x) W e w':=by
 have hlt:=hW.lt
 have C:=hide (fun o=>xval_all n x ns ls w0 (W.alloc o) i [] ⟨hc.rd,hc.vo,hc.lo,hc.be.trans ((below_al (Below.refl W.heap.size W)).mono hc.be.size),hc.tab,hc.gz⟩ (hW.below (below_al (Below.refl _ _))) (by simp))
 obtain ⟨a1,m1,d1,a2,m2,d2,rfl,rfl⟩:=hc.rd.shape
 obtain ⟨h,hh⟩:∃ h,vhd n x=h:=⟨_,rfl⟩
 rw [hh] at C ⊢
 simp only [vals] at C ⊢
 clear hc hW hh
 go_enter Tryz.func29, Tryz.ntmps29
 go_wp2_with (go_at_call 30;refine Sto.out ?_)
 refine Sto.mk ((C.out _).mono ?_)
 rintro e w1 hw
 have K:Hid (WO i [] (xtx n x) W e w1):=WO.base1 (FW.al (FW.refl _ _) hlt) hw
 rcases hw.two1 with rfl|rfl
 ·clear hw
  go_wp2_with fail
  go_end0
  exact K.out
 ·clear hw
  go_wp2_with fail
  exact ⟨rfl,K.out⟩
def JW (n:Nat) (x:VT n) (E:Int) (w:World) (e:Ending) (w':World):Prop :=
 Below w.heap.size w w'∧(E≠0→e=.returned (.tuple #[.slice none 0 0,.int .i64 E]))∧(E=0→((xtx n x).length≤65536→∃ a m c,e=.returned (.tuple #[.slice a m c,.int .i64 0])∧Own w' w.heap.size (.slice a m c) (xtx n x))∧(65536<(xtx n x).length→e=.returned (.tuple #[.slice none 0 0,.int .i64 2])))
theorem ownsRow_low {W:World} {B B' T sz n:Nat} {v:Value} {xs:List Value} (h:W.ownsRow B T sz v n xs) (hb:B'≤B):W.ownsRow B' T sz v n xs:=by
 refine ⟨h.1,?_⟩
 rcases h.2 with h0|⟨g,cap,cur,rfl,h1,h2⟩
 ·exact Or.inl h0
 ·exact Or.inr ⟨g,cap,cur,rfl,Nat.le_trans hb h1,h2⟩
set_option maxRecDepth 100000 in
theorem swrite_any (n:Nat) (x:VT n) (ns ls:Value) (w:World) (hr:Rdy n w x ns ls) (hg:Rg n x) (g:Ut.Gu w) (ht:Tab w.heap.size w) (gz:Gz w) (E:Int) (hE:Chk n x E) :
  Calls Tryz.prog 28 #[.agg (vals (vhd n x) ns ls),.func (.func 29) #[] #[]] w fun e w'=>JW n x E w e w':=by
 have hmf:∀ (fn:Fn) (first cap:Array Value) (w:World),(Instr.makeFunc fn first cap).run Tryz.prog w=.ok (.func fn first cap) w:=fun _ _ _ _=>rfl
 have ck:=hide (fun o1 o2 o3=>check_any n x ns ls (((w.alloc o1).alloc o2).alloc o3) (hr.below (below_al (below_al (below_al (Below.refl _ _))))) (g.below (below_al (below_al (below_al (Below.refl _ _))))) E hE)
 obtain ⟨a1,m1,d1,a2,m2,d2,rfl,rfl⟩:=hr.rd.shape
 obtain ⟨h,hh⟩:∃ h,vhd n x=h:=⟨_,rfl⟩
 have hr':=hide hr
 have hg':=hide hg
 have ht':=hide ht
 have gz':=hide gz
 have hE':=hide hE
 have hh':=hide hh
 rw [hh] at ck ⊢
 simp only [vals] at ck
 clear hr hg ht hE hh g gz
 show Calls _ _ #[.agg #[.int .i64 h.kind,.bool h.flag,.bool h.neg,.string h.dig,.int .i64 h.exp,.int .u64 h.bits,.string h.text,.slice a1 m1 d1,.slice a2 m2 d2],.func (.func 29) #[] #[]] _ _
 go_enter_defers Tryz.func28, Tryz.ntmps28
 go_wp2_with (go_at_call 37;refine Sto.out ?_)
 refine Sto.mk ((ck.out _ _ _).mono ?_)
 rintro e w1 ⟨rfl,hb1⟩
 have B1:Hid (Below w.heap.size w w1):=below_then (below_al (below_al (below_al (Below.refl _ _)))) hb1
 have C1:Hid (∀ q,q<w.heap.size + 1 + 1 + 1→w1.heap[q]?=(((w.alloc (.cells (vals h (.slice a1 m1 d1) (.slice a2 m2 d2)) 38)).alloc (.cells #[.slice none 0 0] 22)).alloc (.cells #[.int .i64 0] 25)).heap[q]?):=fun q hq=>hb1.block q (by simpa using hq)
 have z1:w.heap.size + 1 + 1<w1.heap.size:=by have:=hb1.size;simp at this;omega
 have V1:Hid (Bx w1 w.heap.size h (.slice a1 m1 d1) (.slice a2 m2 d2)):=⟨by
  rw [C1.out _ (by omega),Below.heap_alloc _ _ _ (by simp;omega),Below.heap_alloc _ _ _ (by simp)]
  exact heap_alloc_last _ _⟩
 have R1:Hid (w1.heap[w.heap.size + 1]?=some (.cells #[.slice none 0 0] 22 (0,0))):=by
  show _=_
  rw [C1.out _ (by omega),Below.heap_alloc _ _ _ (by simp)]
  have:=heap_alloc_last (w.alloc (.cells (vals h (.slice a1 m1 d1) (.slice a2 m2 d2)) 38)) (.cells #[.slice none 0 0] 22)
  rw [World.size_alloc] at this
  exact this
 have R2:Hid (w1.heap[w.heap.size + 1 + 1]?=some (.cells #[.int .i64 0] 25 (0,0))):=by
  show _=_
  rw [C1.out _ (by omega)]
  have:=heap_alloc_last ((w.alloc (.cells (vals h (.slice a1 m1 d1) (.slice a2 m2 d2)) 38)).alloc (.cells #[.slice none 0 0] 22)) (.cells #[.int .i64 0] 25)
  rw [World.size_alloc,World.size_alloc] at this
  exact this
 have c1:w1.cell? ⟨w.heap.size + 1,0,none⟩=some (.slice none 0 0):=by simp [World.cell?,R1.out]
 have f1:w1.frozen? ⟨w.heap.size + 1,0,none⟩=false:=by simp [World.frozen?,R1.out]
 have c2:w1.cell? ⟨w.heap.size + 1 + 1,0,none⟩=some (.int .i64 0):=by simp [World.cell?,R2.out]
 have f2:w1.frozen? ⟨w.heap.size + 1 + 1,0,none⟩=false:=by simp [World.frozen?,R2.out]
 clear hb1 ck
 by_cases e0:E=0
 ·have ne0:(E != 0)=false:=by simpa using e0
  obtain ⟨hi,hw0⟩:IsV n x∧Win n x:=by
   rcases hE'.out with ⟨q,_⟩|⟨q,_⟩|⟨_,q1,q2⟩
   ·omega
   ·omega
   ·exact ⟨q1,q2⟩
  have vk:=hide (fun W (b:Below w.heap.size w W) i (hi2:w.heap.size≤i) (y:WB W i [])=>xlay n x (.slice a1 m1 d1) (.slice a2 m2 d2) w W i ⟨hr'.out.rd,⟨hi,hw0.1,hg'.out⟩,hi2,b,ht'.out,gz'.out⟩ y)
  rw [hh'.out] at vk
  simp only [vals] at vk
  obtain ⟨v0,v1,v2,v3,v4,v5,v6,v7,v8⟩:=V1.out.cells
  have e0':=hide e0
  clear e0 hi hw0
  have zz1:w.heap.size<w1.heap.size:=by omega
  have zz2:w.heap.size + 1<w1.heap.size:=by omega
  go_wp2_with (go_at_call 29;refine Sto.out ?_)
  refine Sto.mk ((vk.out _ (below_al B1.out) w1.heap.size (by omega) ⟨.slice none 0 0,heap_alloc_last _ _,own_nil _ _⟩).mono ?_)
  rintro e w2 hw
  have R1':Hid (w2.heap[w.heap.size + 1]?=some (.cells #[.slice none 0 0] 22 (0,0))):=by show _=_;rw [hw.1.1.block _ (by omega),Below.heap_alloc _ _ _ (by omega)];exact R1.out
  have R2':Hid (w2.heap[w.heap.size + 1 + 1]?=some (.cells #[.int .i64 0] 25 (0,0))):=by show _=_;rw [hw.1.1.block _ (by omega),Below.heap_alloc _ _ _ (by omega)];exact R2.out
  have B2:Hid (Below w.heap.size w w2):=(below_al B1.out).trans (hw.1.1.mono (by omega))
  clear c1 f1 c2 f2 v0 v1 v2 v3 v4 v5 v6 v7 v8
  have c1:w2.cell? ⟨w.heap.size + 1,0,none⟩=some (.slice none 0 0):=by simp [World.cell?,R1'.out]
  have f1:w2.frozen? ⟨w.heap.size + 1,0,none⟩=false:=by simp [World.frozen?,R1'.out]
  have c2:w2.cell? ⟨w.heap.size + 1 + 1,0,none⟩=some (.int .i64 0):=by simp [World.cell?,R2'.out]
  have f2:w2.frozen? ⟨w.heap.size + 1 + 1,0,none⟩=false:=by simp [World.frozen?,R2'.out]
  have n12:w.heap.size + 1≠w.heap.size + 1 + 1:=by omega
  obtain ⟨hf,⟨q1,rfl,v',hv',ho'⟩|⟨q1,rfl⟩⟩:=hw
  ·obtain ⟨b1,b2,b3,rfl⟩:∃ b1 b2 b3,v'=.slice b1 b2 b3:=by
    rcases ho'.2 with ⟨rfl,e⟩|⟨g,cap,cur,rfl,_⟩
    ·exact ⟨_,_,_,rfl⟩
    ·exact ⟨_,_,_,rfl⟩
   have c3:w2.cell? ⟨w1.heap.size,0,none⟩=some (.slice b1 b2 b3):=by simp [World.cell?,hv']
   have O2:=hide ho'
   have Q1:=hide q1
   clear hf hv' ho' q1
   go_wp2_with fail
   refine leaves_cons (f:=48) (args:=#[.pointer (some ⟨w.heap.size + 1,0,none⟩),.pointer (some ⟨w.heap.size + 1 + 1,0,none⟩)]) (by simp) (by simp [go_sem]) ?_
   refine (wcatch_idle ⟨w.heap.size + 1,0,none⟩ ⟨w.heap.size + 1 + 1,0,none⟩ _).mono ?_
   rintro e u' w'' ⟨rfl,rfl,rfl⟩
   simp [Leaves,settle,results,Tryz.results28,go_sem, *]
   have hbb:Below w.heap.size w ((w2.setCell ⟨w.heap.size + 1,0,none⟩ (.slice b1 b2 b3)).setCell ⟨w.heap.size + 1 + 1,0,none⟩ (.int .i64 0)):=(B2.out.setCell (p:=⟨w.heap.size + 1,0,none⟩) (show w.heap.size≤w.heap.size + 1 by omega) _).setCell (p:=⟨w.heap.size + 1 + 1,0,none⟩) (show w.heap.size≤w.heap.size + 1 + 1 by omega) _
   refine ⟨hbb,fun q=>absurd e0'.out q,fun _=>⟨fun _=>⟨b1,b2,b3,rfl,?_⟩,fun q=>(by have:=Q1.out;simp at this;omega)⟩⟩
   have ho:=O2.out
   rw [List.nil_append] at ho
   have hlt:=World.ownsRow.lt ho
   refine ownsRow_of (ownsRow_low ho (by omega)) fun g e hg=>?_
   have:=(hlt g e).1
   rw [heap_set_ne (by omega),heap_set_ne (by omega)]
  ·have Q1:=hide q1
   clear hf q1
   go_wp2_with fail
   unfold pan
   refine leaves_cons (f:=48) (args:=#[.pointer (some ⟨w.heap.size + 1,0,none⟩),.pointer (some ⟨w.heap.size + 1 + 1,0,none⟩)]) (by simp) (by simp [go_sem]) ?_
   refine (wcatch_pan ⟨w.heap.size + 1,0,none⟩ ⟨w.heap.size + 1 + 1,0,none⟩ 0 (.slice none 0 0) [] _ c1 f1 c2 f2 (by simp) 2).mono ?_
   rintro e u' w'' ⟨rfl,rfl,rfl⟩
   simp [Leaves,settle,results,Tryz.results28,go_sem, *]
   have hbb:Below w.heap.size w ((w2.setCell ⟨w.heap.size + 1,0,none⟩ (.slice none 0 0)).setCell ⟨w.heap.size + 1 + 1,0,none⟩ (.int .i64 2)):=(B2.out.setCell (p:=⟨w.heap.size + 1,0,none⟩) (show w.heap.size≤w.heap.size + 1 by omega) _).setCell (p:=⟨w.heap.size + 1 + 1,0,none⟩) (show w.heap.size≤w.heap.size + 1 + 1 by omega) _
   exact ⟨hbb,fun q=>absurd e0'.out q,fun _=>⟨fun q=>(by have:=Q1.out;simp at this;omega),fun _=>rfl⟩⟩
 ·have ne0:(E != 0)=true:=by simpa using e0
  have n12:w.heap.size + 1≠w.heap.size + 1 + 1:=by omega
  go_wp2_with fail
  simp [bodyPostD,Leaves,settle,results,Tryz.results28,go_sem, *]
  have hbb:Below w.heap.size w ((w1.setCell ⟨w.heap.size + 1,0,none⟩ (.slice none 0 0)).setCell ⟨w.heap.size + 1 + 1,0,none⟩ (.int .i64 E)):=(B1.out.setCell (p:=⟨w.heap.size + 1,0,none⟩) (show w.heap.size≤w.heap.size + 1 by omega) _).setCell (p:=⟨w.heap.size + 1 + 1,0,none⟩) (show w.heap.size≤w.heap.size + 1 + 1 by omega) _
  exact ⟨hbb,fun _=>rfl,fun q=>absurd q e0⟩
set_option maxRecDepth 100000 in
theorem xwrite_any (n:Nat) (x:VT n) (ns ls:Value) (w:World) (hr:Rdy n w x ns ls) (hg:Rg n x) (g:Ut.Gu w) (ht:Tab w.heap.size w) (gz:Gz w) (E:Int) (hE:Chk n x E) :
  Calls Tryz.prog 13 #[.agg (vals (vhd n x) ns ls)] w fun e w'=>JW n x E w e w':=by
 have hmf:∀ (fn:Fn) (first cap:Array Value) (w:World),(Instr.makeFunc fn first cap).run Tryz.prog w=.ok (.func fn first cap) w:=fun _ _ _ _=>rfl
 have C:=hide (fun o=>swrite_any n x ns ls (w.alloc o) (hr.below (below_al (Below.refl _ _))) hg (g.below (below_al (Below.refl _ _))) (Tab.of1 ht (below_al (Below.refl _ _))) (gz.low (below_al (Below.refl _ _)) gz.low8) E hE)
 obtain ⟨a1,m1,d1,a2,m2,d2,rfl,rfl⟩:=hr.rd.shape
 obtain ⟨h,hh⟩:∃ h,vhd n x=h:=⟨_,rfl⟩
 rw [hh] at C ⊢
 simp only [vals] at C ⊢
 clear hr hg g ht gz hE hh
 go_enter Tryz.func13, Tryz.ntmps13
 go_wp2_with (go_at_call 28;refine Sto.out ?_)
 refine Sto.mk ((C.out _).mono ?_)
 rintro e w1 hw
 obtain ⟨hb,h1,h2⟩:=hw
 have K:Hid (JW n x E w e w1):=⟨(below_al (Below.refl _ _)).trans (hb.mono (by simp)),h1,fun q=>⟨fun q2=>by
  obtain ⟨a,m,c,e1,ho⟩:=(h2 q).1 q2
  exact ⟨a,m,c,e1,ownsRow_low ho (by simp)⟩,(h2 q).2⟩⟩
 obtain ⟨u,v,rfl⟩:∃ u v,e=.returned (.tuple #[u,v]):=by
  by_cases q:E=0
  ·by_cases q2:(xtx n x).length≤65536
   ·obtain ⟨a,m,c,e1,_⟩:=(h2 q).1 q2
    exact ⟨_,_,e1⟩
   ·exact ⟨_,_,(h2 q).2 (by omega)⟩
  ·exact ⟨_,_,h1 q⟩
 clear hb h1 h2
 go_wp2_with fail
 exact bodyPost_ret (v:=.tuple #[u,v]) (by simp [results,Tryz.results13,go_sem]) rfl K.out
def xaT:VT 1:=({zr 5 with text:=⟨#[97,60,10]⟩},[])
def xl1:VT 1:=(zr 7,[])
def xgT:VT 2:=({zr 9 with text:=⟨#[116]⟩},[xl1])
def xv1:VT 3:=(zr 1,[])
def xv2:VT 3:=({zr 5 with text:=⟨#[32,97,65,62]⟩},[])
def xvT:VT 4:=(zr 7,[xv1,xv2])
theorem xa_isv:IsV 1 xaT:=⟨⟨(show (1:Int)≤5 by decide),(show (5:Int)≤9 by decide),rfl,Or.inr rfl⟩,⟨fun h=>(by cases h),fun _=>by decide,fun h=>(by cases h),fun h=>(by cases h)⟩,fun y hy=>(by cases hy)⟩
theorem xa_sht:Sht 1 xaT:=⟨(show (3:Int)≤4096 by decide),(show 0≤256 by decide),fun s hs=>(by cases hs),fun y hy=>(by cases hy)⟩
theorem xa_chk:Chk 1 xaT 0:=Or.inr (Or.inr ⟨rfl,xa_isv,xa_sht,(show 1≤16 by decide),(show 1≤4096 by decide)⟩)
theorem xa_sz:Sz 1 xaT:=⟨by decide,by decide,by decide,fun s hs=>(by cases hs),fun y hy=>(by cases hy)⟩
theorem xa_rg:Rg 1 xaT:=⟨by decide,by decide,fun y hy=>(by cases hy)⟩
theorem xl_isv:IsV 1 xl1:=⟨⟨(show (1:Int)≤7 by decide),(show (7:Int)≤9 by decide),rfl,Or.inl (show (7:Int)≤7 by decide)⟩,⟨fun h=>(by cases h),fun h=>(by cases h),fun h=>(by cases h),fun h=>(by cases h)⟩,fun y hy=>(by cases hy)⟩
theorem xl_sht:Sht 1 xl1:=⟨(show (0:Int)≤4096 by decide),(show 0≤256 by decide),fun s hs=>(by cases hs),fun y hy=>(by cases hy)⟩
theorem xl_sz:Sz 1 xl1:=⟨by decide,by decide,by decide,fun s hs=>(by cases hs),fun y hy=>(by cases hy)⟩
theorem xl_rg:Rg 1 xl1:=⟨by decide,by decide,fun y hy=>(by cases hy)⟩
theorem xg_isv:IsV 2 xgT:=⟨⟨(show (1:Int)≤9 by decide),(show (9:Int)≤9 by decide),rfl,Or.inl (show (7:Int)≤9 by decide)⟩,⟨fun h=>(by cases h),fun h=>(by cases h),fun h=>(by cases h),fun _=>by decide⟩,ex_one xl_isv⟩
theorem xg_sht:Sht 2 xgT:=⟨(show (1:Int)≤64 by decide),(show 1≤256 by decide),fun s hs=>(by cases hs),ex_one xl_sht⟩
theorem xg_chk:Chk 2 xgT 0:=Or.inr (Or.inr ⟨rfl,xg_isv,xg_sht,(show 2≤16 by decide),(show 2≤4096 by decide)⟩)
theorem xg_sz:Sz 2 xgT:=⟨by decide,by decide,by decide,fun s hs=>(by cases hs),ex_one xl_sz⟩
theorem xg_rg:Rg 2 xgT:=⟨by decide,by decide,ex_one xl_rg⟩
theorem xv1_isv:IsV 3 xv1:=⟨⟨(show (1:Int)≤1 by decide),(show (1:Int)≤9 by decide),rfl,Or.inr rfl⟩,⟨fun h=>(by cases h),fun h=>(by cases h),fun h=>(by cases h),fun h=>(by cases h)⟩,fun y hy=>(by cases hy)⟩
theorem xv2_isv:IsV 3 xv2:=⟨⟨(show (1:Int)≤5 by decide),(show (5:Int)≤9 by decide),rfl,Or.inr rfl⟩,⟨fun h=>(by cases h),fun _=>by decide,fun h=>(by cases h),fun h=>(by cases h)⟩,fun y hy=>(by cases hy)⟩
theorem xv_isv:IsV 4 xvT:=⟨⟨(show (1:Int)≤7 by decide),(show (7:Int)≤9 by decide),rfl,Or.inl (show (7:Int)≤7 by decide)⟩,⟨fun h=>(by cases h),fun h=>(by cases h),fun h=>(by cases h),fun h=>(by cases h)⟩,ex_mem xv1_isv xv2_isv⟩
theorem xv_sht1:Sht 3 xv1:=⟨(show (0:Int)≤4096 by decide),(show 0≤256 by decide),fun s hs=>(by cases hs),fun y hy=>(by cases hy)⟩
theorem xv_sht2:Sht 3 xv2:=⟨(show (4:Int)≤4096 by decide),(show 0≤256 by decide),fun s hs=>(by cases hs),fun y hy=>(by cases hy)⟩
theorem xv_win:Win 4 xvT:=⟨⟨(show (0:Int)≤4096 by decide),(show 2≤256 by decide),fun s hs=>(by cases hs),ex_mem xv_sht1 xv_sht2⟩,(show 2≤16 by decide),(show 3≤4096 by decide)⟩
theorem xv_fl:xexE=fl 4 xvT:=rfl
theorem xv_done:doneS (runE xexE)=true:=by rw [xv_fl,runE_fl 4 xvT xv_isv];rfl
theorem xexE_z:∀ e∈xexE,EvZ e:=by
 intro e he
 simp only [xexE,List.mem_cons,List.not_mem_nil,or_false] at he
 rcases he with rfl|rfl|rfl|rfl <;> exact ⟨by decide,by decide,rfl⟩
set_option maxRecDepth 100000 in
theorem xa_tx:xtx 1 xaT=[60,116,101,120,116,62,97,38,108,116,59,38,35,120,97,59,60,47,116,101,120,116,62]:=by kernel_rfl
set_option maxRecDepth 100000 in
theorem xg_tx:xtx 2 xgT=[60,116,97,103,32,110,97,109,101,61,34,116,34,62,60,108,105,115,116,62,60,47,108,105,115,116,62,60,47,116,97,103,62]:=by kernel_rfl
theorem rd_xg {W:World} {b:Nat} (hb:W.heap[b]?=some (.cells (vals (zr 7) (.slice none 0 0) (.slice none 0 0)) 38 (0,0))):RD 2 W xgT (.slice none 0 0) (.slice (some ⟨b,0,none⟩) 1 1):=by
 have lb:=(Array.getElem?_eq_some_iff.1 hb).1
 refine ⟨Or.inl ⟨rfl,rfl⟩,Or.inr ⟨b,0,1,none,rfl,Nat.le_refl _,by decide,fun _=>⟨rfl,lb⟩,fun i hi=>?_⟩⟩
 have hi0:i=0:=by have:i<1:=hi;omega
 subst hi0
 exact ⟨.slice none 0 0,.slice none 0 0,range_block hb [] _ [] rfl,⟨Or.inl ⟨rfl,rfl⟩,Or.inl ⟨rfl,rfl⟩⟩⟩
theorem xwr_a (w:World) (gu:Ut.Gu w) (ht:Tab w.heap.size w) (gz:Gz w) (W:World) (hb:Below w.heap.size w W) :
  Calls Tryz.prog 13 #[.agg (vals (vhd 1 xaT) (.slice none 0 0) (.slice none 0 0))] W fun e w'=>∃ p m c,e=.returned (.tuple #[.slice p m c,.int .i64 0])∧Below W.heap.size W w'∧Own w' W.heap.size (.slice p m c) (xtx 1 xaT) :=
 (xwrite_any 1 xaT _ _ W ⟨⟨Or.inl ⟨rfl,rfl⟩,Or.inl ⟨rfl,rfl⟩⟩,xa_sz,(show 1≤200000 by decide)⟩ xa_rg (gu.below hb) (Tab.up (ht.on hb) hb.size) (gz.low hb gz.low8) 0 xa_chk).mono (by
  rintro e w' ⟨h1,_,h3⟩
  obtain ⟨p,m,c,h4,h5⟩:=(h3 rfl).1 (by rw [xa_tx];decide)
  exact ⟨p,m,c,h4,h1,h5⟩)
theorem xwr_g (w:World) (gu:Ut.Gu w) (ht:Tab w.heap.size w) (gz:Gz w) (W:World) (hb:Below w.heap.size w W) {b:Nat} (hb2:W.heap[b]?=some (.cells (vals (zr 7) (.slice none 0 0) (.slice none 0 0)) 38 (0,0))) :
  Calls Tryz.prog 13 #[.agg (vals (vhd 2 xgT) (.slice none 0 0) (.slice (some ⟨b,0,none⟩) 1 1))] W fun e w'=>∃ p m c,e=.returned (.tuple #[.slice p m c,.int .i64 0])∧Below W.heap.size W w'∧Own w' W.heap.size (.slice p m c) (xtx 2 xgT) :=
 (xwrite_any 2 xgT _ _ W ⟨rd_xg hb2,xg_sz,(show 2≤200000 by decide)⟩ xg_rg (gu.below hb) (Tab.up (ht.on hb) hb.size) (gz.low hb gz.low8) 0 xg_chk).mono (by
  rintro e w' ⟨h1,_,h3⟩
  obtain ⟨p,m,c,h4,h5⟩:=(h3 rfl).1 (by rw [xg_tx];decide)
  exact ⟨p,m,c,h4,h1,h5⟩)
def cb (l:List UInt8):Array Value:=(l.map fun c=>Value.int .u8 (c.toNat:Int)).toArray
theorem xrd_const (w:World) (gu:Ut.Gu w) (ge:Ge w) (h8:8≤w.heap.size) (W:World) (hb:Below w.heap.size w W) (l:List UInt8) (fr:Nat×Nat) (hl:l.length≤100000) (hlen:∀ es,readX l=.inr es→es.length≤199000∧∀ e∈es,EvZ e) :
  Calls Tryz.prog 16 #[.slice (some ⟨W.heap.size,0,none⟩) l.length l.length] (W.alloc (.cells (cb l) 5 fr)) fun e w'=>RR (W.alloc (.cells (cb l) 5 fr)).heap.size (W.alloc (.cells (cb l) 5 fr)) (readX l) e w':=by
 have hB:Below w.heap.size w (W.alloc (.cells (cb l) 5 fr)):=below_then hb (below_al (Below.refl _ _))
 refine xread_x _ _ _ l ⟨⟨_,_,rfl⟩,by omega,fun _=>⟨W.heap.size,0,l.length,rfl,fun j hj=>?_,by simp⟩⟩ (gu.below hB) (ge.low hB h8) (Nat.le_trans h8 hB.size) hlen
 unfold World.cell?
 rw [heap_alloc_last]
 simp [cb,hj]
theorem xrd_a (w:World) (gu:Ut.Gu w) (ge:Ge w) (h8:8≤w.heap.size) (W:World) (hb:Below w.heap.size w W) (fr:Nat×Nat) :
  Calls Tryz.prog 16 #[.slice (some ⟨W.heap.size,0,none⟩) xexA.length xexA.length] (W.alloc (.cells (cb xexA) 5 fr)) fun e w'=>∃ a1 m1 d1 b o c s f,e=.returned (.tuple #[.agg (vals (zr 7) (.slice a1 m1 d1) (.slice (some ⟨b,o,none⟩) 2 c)),.int .i64 0])∧Below W.heap.size W w'∧KR 4 w' xvT (.slice a1 m1 d1) (.slice (some ⟨b,o,none⟩) 2 c) s f:=by
 refine (xrd_const w gu ge h8 W hb xexA fr (by decide) (fun es h=>by rw [xexA_rd] at h;cases h;exact ⟨by decide,xexE_z⟩)).mono ?_
 intro e w' hp
 rw [xexA_rd] at hp
 obtain ⟨h1,y,E,rfl,_,_,h4⟩:=hp
 obtain ⟨x,k1,k2,_,k4,k5⟩:=h4 xv_done
 have hx:x=xvT:=(fl_inj 4 x xvT k2 xv_isv [] [] (by rw [List.append_nil,List.append_nil,←xv_fl];exact k1.symm)).1
 subst hx
 have hE:E=0:=k4.2 xv_win
 obtain ⟨ns,ls,s,f,rfl,_,k7⟩:=k5 hE
 obtain ⟨r1,r2⟩:=k7.rd
 obtain ⟨a1,m1,d1,a2,m2,d2,rfl,rfl⟩:=k7.rd.shape
 rcases r2 with ⟨_,h0⟩|⟨b,o,c,sp,hls,_,_,hsp,_⟩
 ·cases h0
 ·obtain ⟨rfl,_⟩:=hsp (show 0<2 by decide)
  rw [hls] at k7 ⊢
  subst hE
  exact ⟨a1,m1,d1,b,o,c,s,f,rfl,below_then (below_al (Below.refl _ _)) h1,k7⟩
theorem xrd_e (w:World) (gu:Ut.Gu w) (ge:Ge w) (h8:8≤w.heap.size) (W:World) (hb:Below w.heap.size w W) (fr:Nat×Nat) (l:List UInt8) (hl:l.length≤100000) (E:Int) (hE:readX l=.inl E) :
  Calls Tryz.prog 16 #[.slice (some ⟨W.heap.size,0,none⟩) l.length l.length] (W.alloc (.cells (cb l) 5 fr)) fun e w'=>e=.returned (.tuple #[.agg zV,.int .i64 E])∧Below W.heap.size W w':=by
 refine (xrd_const w gu ge h8 W hb l fr hl (fun es h=>by rw [hE] at h;cases h)).mono ?_
 intro e w' hp
 rw [hE] at hp
 exact ⟨hp.2,below_then (below_al (Below.refl _ _)) hp.1⟩
set_option maxRecDepth 100000 in
theorem xawake_any (w:World) (gu:Ut.Gu w) (ht:Tab w.heap.size w) (gz:Gz w) (ge:Ge w):Calls Tryz.prog 11 #[] w fun e w'=>e=.returned (.bool true)∧Below w.heap.size w w':=by
 have h8:=gz.low8
 have hcs:∀ (w:World) (C:Array Value) (n c:Nat),(convert 22 22 (.slice (some ⟨w.heap.size,0,none⟩) n c)).run Tryz.prog (w.alloc (.cells C 5))=.ok (.slice (some ⟨w.heap.size,0,none⟩) n c) (w.alloc (.cells C 5 (C.size,C.size + 1))):=fun w C n c=>Lib.run_convert_bytes_const w 22 5 C n c Tryz.underlying22 Tryz.underlying5
 have hcs2:∀ (w:World) (o:Obj) (C:Array Value) (n c:Nat),(convert 22 22 (.slice (some ⟨w.heap.size + 1,0,none⟩) n c)).run Tryz.prog ((w.alloc o).alloc (.cells C 5))=.ok (.slice (some ⟨w.heap.size + 1,0,none⟩) n c) ((w.alloc o).alloc (.cells C 5 (C.size,C.size + 1))):=fun w o C n c=>by have:=hcs (w.alloc o) C n c;rw [World.size_alloc] at this;exact this
 have RA:=hide (fun W hb=>xrd_a w gu ge h8 W hb (46,47))
 have RB:=hide (fun W hb=>xrd_e w gu ge h8 W hb (8,9) xexB (by decide) 100 xexB_rd)
 rw [show cb xexA=#[.int .u8 32,.int .u8 60,.int .u8 108,.int .u8 105,.int .u8 115,.int .u8 116,.int .u8 62,.int .u8 32,.int .u8 60,.int .u8 110,.int .u8 117,.int .u8 108,.int .u8 108,.int .u8 47,.int .u8 62,.int .u8 32,.int .u8 60,.int .u8 116,.int .u8 101,.int .u8 120,.int .u8 116,.int .u8 62,.int .u8 32,.int .u8 97,.int .u8 38,.int .u8 35,.int .u8 120,.int .u8 52,.int .u8 49,.int .u8 59,.int .u8 62,.int .u8 60,.int .u8 47,.int .u8 116,.int .u8 101,.int .u8 120,.int .u8 116,.int .u8 62,.int .u8 60,.int .u8 47,.int .u8 108,.int .u8 105,.int .u8 115,.int .u8 116,.int .u8 62,.int .u8 32] from rfl,show xexA.length=46 from rfl] at RA
 rw [show cb xexB=#[.int .u8 60,.int .u8 110,.int .u8 117,.int .u8 108,.int .u8 108,.int .u8 32,.int .u8 47,.int .u8 62] from rfl,show xexB.length=8 from rfl] at RB
 have W1:=hide (xwr_a w gu ht gz)
 have W2:=hide (xwr_g w gu ht gz)
 simp only [vals,xaT,xgT,vhd,zr] at W1 W2
 simp only [vals,zr] at RA
 simp only [zV] at RB
 go_enter Tryz.func11, Tryz.ntmps11
 go_wp2_with (go_at_call 13;refine Sto.out ?_)
 refine Sto.mk ((W1.out _ (Below.refl _ _)).mono ?_)
 rintro e v1 ⟨p1,m1,c1,rfl,B1',ho1⟩
 have B1:Hid (Below w.heap.size w v1):=B1'
 have O1:Hid (∃ B,Own v1 B (.slice p1 m1 c1) (xtx 1 xaT)):=⟨_,ho1⟩
 clear B1' ho1 W1
 go_wp2_with (go_at_call 13;refine Sto.out ?_)
 refine Sto.mk ((W2.out _ (below_then B1.out (below_al (Below.refl _ _))) (b:=v1.heap.size) (heap_alloc_last _ _)).mono ?_)
 rintro e v2 ⟨p2,m2,c2,rfl,hb2,ho2⟩
 have D2:Hid (Below v1.heap.size v1 v2):=below_then (below_al (Below.refl _ _)) hb2
 have B2:Hid (Below w.heap.size w v2):=below_then B1.out D2.out
 have O1':Hid (∃ B,Own v2 B (.slice p1 m1 c1) (xtx 1 xaT)):=by
  obtain ⟨B,h⟩:=O1.out
  exact ⟨B,own_of h fun k _ hk=>D2.out.block k hk⟩
 have O2:Hid (∃ B,Own v2 B (.slice p2 m2 c2) (xtx 2 xgT)):=⟨_,ho2⟩
 clear hb2 ho2 W2 O1 D2
 go_wp2_with (go_at_call 16;refine Sto.out ?_)
 refine Sto.mk ((RA.out _ B2.out).mono ?_)
 rintro e v3 ⟨a3,m3,d3,b3,o3,c3,s3,f3,rfl,hb3,hk3⟩
 have B3:Hid (Below w.heap.size w v3):=below_then B2.out hb3
 have P1:Hid (∃ B,Own v3 B (.slice p1 m1 c1) (xtx 1 xaT)):=by
  obtain ⟨B,h⟩:=O1'.out
  exact ⟨B,own_of h fun k _ hk=>hb3.block k hk⟩
 have P2:Hid (∃ B,Own v3 B (.slice p2 m2 c2) (xtx 2 xgT)):=by
  obtain ⟨B,h⟩:=O2.out
  exact ⟨B,own_of h fun k _ hk=>hb3.block k hk⟩
 have K3:=hide hk3
 clear hb3 hk3 O1' O2 RA
 go_wp2_with (go_at_call 16;refine Sto.out ?_)
 refine Sto.mk ?_
 have rb:=RB.out (v3.alloc (.cells #[.int .i64 7,.bool false,.bool false,.string ⟨#[]⟩,.int .i64 0,.int .u64 0,.string ⟨#[]⟩,.slice a3 m3 d3,.slice (some ⟨b3,o3,none⟩) 2 c3] 38)) (below_then B3.out (below_al (Below.refl _ _)))
 rw [World.size_alloc] at rb
 refine rb.mono ?_
 rintro e v4 ⟨rfl,hb4⟩
 have L4:Hid (Below v3.heap.size v3 v4):=below_then (below_al (Below.refl _ _)) (by rw [World.size_alloc];exact hb4)
 have X4:Hid (Bx v4 v3.heap.size (zr 7) (.slice a3 m3 d3) (.slice (some ⟨b3,o3,none⟩) 2 c3)):=⟨(hb4.block _ (by omega)).trans (heap_alloc_last _ _)⟩
 have B4:Hid (Below w.heap.size w v4):=below_then B3.out L4.out
 clear hb4 RB rb
 have L35:Hid (∀ o,Below v3.heap.size v3 (v4.alloc o)):=fun o=>below_then L4.out (below_al (Below.refl _ _))
 have cv1:∀ o,(convert 22 9 (.slice p1 m1 c1)).run Tryz.prog (v4.alloc o)=.ok (.string ⟨#[60,116,101,120,116,62,97,38,108,116,59,38,35,120,97,59,60,47,116,101,120,116,62]⟩) (v4.alloc o):=fun o=>by
  obtain ⟨B,h⟩:=P1.out
  have:=own_conv (own_of h fun k _ hk=>(L35.out o).block k hk)
  rw [xa_tx] at this
  exact this
 have cv2:∀ o,(convert 22 9 (.slice p2 m2 c2)).run Tryz.prog (v4.alloc o)=.ok (.string ⟨#[60,116,97,103,32,110,97,109,101,61,34,116,34,62,60,108,105,115,116,62,60,47,108,105,115,116,62,60,47,116,97,103,62]⟩) (v4.alloc o):=fun o=>by
  obtain ⟨B,h⟩:=P2.out
  have:=own_conv (own_of h fun k _ hk=>(L35.out o).block k hk)
  rw [xg_tx] at this
  exact this
 have X5:Hid (∀ o,Bx (v4.alloc o) v3.heap.size (zr 7) (.slice a3 m3 d3) (.slice (some ⟨b3,o3,none⟩) 2 c3)):=fun o=>⟨((below_al (Below.refl _ _)).block _ X4.out.lt').trans X4.out.at_⟩
 have x8:=fun o=>(X5.out o).cells.2.2.2.2.2.2.2.2
 have R5:Hid (∀ o,RD 4 (v4.alloc o) xvT (.slice a3 m3 d3) (.slice (some ⟨b3,o3,none⟩) 2 c3)):=fun o=>K3.out.2.2 _ fun k _ hk=>(L35.out o).block k (Nat.lt_of_lt_of_le hk K3.out.2.1)
 have el:Hid (∀ o,∃ n1 l1,(v4.alloc o).rangeAt b3 (o3 + 9) (vals (vhd 3 xv2) n1 l1).toList):=fun o=>by
  obtain ⟨_,r2⟩:=R5.out o
  rcases r2 with ⟨h0,_⟩|⟨b,oo,c,sp,hls,_,_,hsp,hel⟩
  ·cases h0
  ·cases hls
   obtain ⟨n1,l1,e1,_⟩:=hel 1 (by decide)
   exact ⟨n1,l1,e1⟩
 have q6:∀ o,(v4.alloc o).cell? ⟨b3,o3 + 9 + 6,none⟩=some (.string ⟨#[32,97,65,62]⟩):=fun o=>by obtain ⟨n1,l1,h⟩:=el.out o;exact h 6 _ rfl
 clear P1 P2
 go_wp2_with fail
 go_ret
 exact ⟨rfl,below_then B4.out (below_al (Below.refl _ _))⟩
theorem xnil_law (a:Option Addr) (n c:Nat) (w:World) (gu:Ut.Gu w) (ht:Tab w.heap.size w) (gz:Gz w) (ge:Ge w) (hn:n≤maxLen):Calls Tryz.prog 3 #[.slice a n c] w fun e w'=>e=.returned (.bool true)∧Below w.heap.size w w':=by
 have h8:=gz.low8
 have ml:maxLen=9223372036854775807:=rfl
 rw [ml] at hn
 have F:=hide (fun W=>feed_nil (.slice a n c) W)
 have E:=hide (fun W=>end_nil W)
 have AW:=hide (fun W (hb:Below w.heap.size w W)=>xawake_any W (gu.below hb) (Tab.up (ht.on hb) hb.size) (gz.low hb h8) (ge.low hb h8))
 clear gu ht gz ge h8
 by_cases hl:(131072:Int)<(n:Int)
 ·have d:decide ((131072:Int)<(n:Int))=true:=by simp;omega
  clear hl
  go_enter Tryz.func3, Tryz.ntmps3
  go_wp2
  go_ret
  exact ⟨rfl,Below.refl _ _⟩
 ·have d:decide ((131072:Int)<(n:Int))=false:=by simp;omega
  clear hl
  go_enter Tryz.func3, Tryz.ntmps3
  go_wp2_with (first
   | (go_at_call 9;refine (F.out _).mono ?_;rintro e w1 ⟨rfl,rfl⟩)
   | (go_at_call 10;refine (E.out _).mono ?_;rintro e w2 ⟨rfl,rfl⟩)
   | (go_at_call 11;refine (AW.out _ (Below.refl _ _)).mono ?_;rintro e w3 ⟨rfl,hb3⟩;have B3:=hide hb3;clear hb3))
  go_ret
  exact ⟨rfl,B3.out⟩
end Go.Proofs.YtdgehngffccjaaaGreatDoor
