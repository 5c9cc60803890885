/- Merged by program: YzWrite, DkPure, DiAtt, DjAtt. -/
import Derived.Test.YthodiandebahdaaGreatDoorZy17
import Derived.Test.YthodiandebahdaaGreatDoorZy30
namespace Go.Proofs.YthodiandebahdaaGreatDoor
open Go.RowKit
set_option linter.unusedSimpArgs false
set_option linter.unusedVariables false
set_option maxHeartbeats 8000000
set_option maxRecDepth 100000 in
theorem wcatch_idle (p q:Addr) (w:World) :
  CallsD Tryz.prog 39 #[.pointer (some p),.pointer (some q)] .returning w fun e u' w'=>e=.returned (.tuple #[])∧u'=.returning∧w'=w:=by
 refine callsD_of_wpS Tryz.func39 rfl fun c₀ cs hu=>?_
 apply wpS_seq
 apply wpS_region
 simp [wpOpsS,go_sem,recoverD,hu,Tryz.ntmps39,Exit.thenS,ta_nil]
 apply wpS_seq
 apply wpS_region
 simp [wpOpsS,go_sem,Exit.thenS,Array.replicate]
 refine wpS_cond (t:=false) (by simp [Act.eval,Array.replicate]) ?_
 simp only [Bool.false_eq_true,if_false]
 refine wpS_of_wp (wp_skip ?_)
 cases c₀
 simp_all [bodyPostS,results,Tryz.results39]
set_option maxRecDepth 100000 in
theorem wcatch_pan (p q:Addr) (x:Int) (v:Value) (older:List PanicEntry) (w:World) (hc:w.cell? p=some v) (hz:w.frozen? p=false) (hc2:w.cell? q=some (.int .i64 x)) (hz2:w.frozen? q=false) (hpq:p≠q) (E:Int) :
  CallsD Tryz.prog 39 #[.pointer (some p),.pointer (some q)] (.panicking ({v:=.iface 33 (.int .i64 E),recovered:=false} :: older)) w fun e u' w' =>
   e=.returned (.tuple #[])∧u'=.panicking ({v:=.iface 33 (.int .i64 E),recovered:=true} :: older)∧w'=(w.setCell p (.slice none 0 0)).setCell q (.int .i64 E):=by
 have hc3:(w.setCell p (.slice none 0 0)).cell? q=some (.int .i64 x):=by rw [World.cell?_setCell_other _ _ _ _ hpq];exact hc2
 refine callsD_of_wpS Tryz.func39 rfl fun c₀ cs hu=>?_
 apply wpS_seq
 apply wpS_region
 simp [wpOpsS,go_sem,recoverD,hu,Tryz.ntmps39,Exit.thenS,ta_err]
 apply wpS_seq
 apply wpS_region
 simp [wpOpsS,go_sem,Exit.thenS,Array.replicate]
 refine wpS_cond (t:=true) (by simp [Act.eval,Array.replicate]) ?_
 simp only [if_true]
 apply wpS_region
 simp [wpOpsS,go_sem,hc,hz,hc3,hz2,bodyPostS,results,Tryz.results39]
set_option maxRecDepth 100000 in
theorem xlay (n:Nat) (x:VT n) (ns ls:Value) (w0 W:World) (i:Nat) (hc:Vx n x ns ls w0 i W) (hW:WB W i []):Calls Tryz.prog 24 #[.pointer (some ⟨i,0,none⟩),.agg (vals (vhd n x) ns ls)] W fun e w'=>WO i [] (xtx n x) W e w':=by
 have hlt:=hW.lt
 have C:=hide (fun o=>xval_all n x ns ls w0 (W.alloc o) i [] ⟨hc.rd,hc.vo,hc.lo,hc.be.trans ((below_al (Below.refl W.heap.size W)).mono hc.be.size),hc.tab,hc.gz⟩ (hW.below (below_al (Below.refl _ _))) (by simp))
 obtain ⟨a1,m1,d1,a2,m2,d2,rfl,rfl⟩:=hc.rd.shape
 obtain ⟨h,hh⟩:∃ h,vhd n x=h:=⟨_,rfl⟩
 rw [hh] at C ⊢
 simp only [vals] at C ⊢
 clear hc hW hh
 go_enter Tryz.func24, Tryz.ntmps24
 go_wp2_with (go_at_call 25;refine Sto.out ?_)
 refine Sto.mk ((C.out _).mono ?_)
 rintro e w1 hw
 have K:Hid (WO i [] (xtx n x) W e w1):=WO.base1 (FW.al (FW.refl _ _) hlt) hw
 rcases hw.two1 with rfl|rfl
 ·clear hw
  go_wp2_with fail
  go_end0
  exact K.out
 ·clear hw
  go_wp2_with fail
  exact ⟨rfl,K.out⟩
def JW (n:Nat) (x:VT n) (E:Int) (w:World) (e:Ending) (w':World):Prop :=
 Below w.heap.size w w'∧(E≠0→e=.returned (.tuple #[.slice none 0 0,.int .i64 E]))∧(E=0→((xtx n x).length≤65536→∃ a m c,e=.returned (.tuple #[.slice a m c,.int .i64 0])∧Own w' w.heap.size (.slice a m c) (xtx n x))∧(65536<(xtx n x).length→e=.returned (.tuple #[.slice none 0 0,.int .i64 2])))
theorem ownsRow_low {W:World} {B B' T sz n:Nat} {v:Value} {xs:List Value} (h:W.ownsRow B T sz v n xs) (hb:B'≤B):W.ownsRow B' T sz v n xs:=by
 refine ⟨h.1,?_⟩
 rcases h.2 with h0|⟨g,cap,cur,rfl,h1,h2⟩
 ·exact Or.inl h0
 ·exact Or.inr ⟨g,cap,cur,rfl,Nat.le_trans hb h1,h2⟩
set_option maxRecDepth 100000 in
theorem swrite_any (n:Nat) (x:VT n) (ns ls:Value) (w:World) (hr:Rdy n w x ns ls) (hg:Rg n x) (g:Ut.Gu w) (ht:Tab w.heap.size w) (gz:Gz w) (E:Int) (hE:Chk n x E) :
  Calls Tryz.prog 23 #[.agg (vals (vhd n x) ns ls),.func (.func 24) #[] #[]] w fun e w'=>JW n x E w e w':=by
 have hmf:∀ (fn:Fn) (first cap:Array Value) (w:World),(Instr.makeFunc fn first cap).run Tryz.prog w=.ok (.func fn first cap) w:=fun _ _ _ _=>rfl
 have ck:=hide (fun o1 o2 o3=>check_any n x ns ls (((w.alloc o1).alloc o2).alloc o3) (hr.below (below_al (below_al (below_al (Below.refl _ _))))) (g.below (below_al (below_al (below_al (Below.refl _ _))))) E hE)
 obtain ⟨a1,m1,d1,a2,m2,d2,rfl,rfl⟩:=hr.rd.shape
 obtain ⟨h,hh⟩:∃ h,vhd n x=h:=⟨_,rfl⟩
 have hr':=hide hr
 have hg':=hide hg
 have ht':=hide ht
 have gz':=hide gz
 have hE':=hide hE
 have hh':=hide hh
 rw [hh] at ck ⊢
 simp only [vals] at ck
 clear hr hg ht hE hh g gz
 show Calls _ _ #[.agg #[.int .i64 h.kind,.bool h.flag,.bool h.neg,.string h.dig,.int .i64 h.exp,.int .u64 h.bits,.string h.text,.slice a1 m1 d1,.slice a2 m2 d2],.func (.func 24) #[] #[]] _ _
 go_enter_defers Tryz.func23, Tryz.ntmps23
 go_wp2_with (go_at_call 38;refine Sto.out ?_)
 refine Sto.mk ((ck.out _ _ _).mono ?_)
 rintro e w1 ⟨rfl,hb1⟩
 have B1:Hid (Below w.heap.size w w1):=below_then (below_al (below_al (below_al (Below.refl _ _)))) hb1
 have C1:Hid (∀ q,q<w.heap.size + 1 + 1 + 1→w1.heap[q]?=(((w.alloc (.cells (vals h (.slice a1 m1 d1) (.slice a2 m2 d2)) 29)).alloc (.cells #[.slice none 0 0] 32)).alloc (.cells #[.int .i64 0] 33)).heap[q]?):=fun q hq=>hb1.block q (by simpa using hq)
 have z1:w.heap.size + 1 + 1<w1.heap.size:=by have:=hb1.size;simp at this;omega
 have V1:Hid (Bx w1 w.heap.size h (.slice a1 m1 d1) (.slice a2 m2 d2)):=⟨by
  rw [C1.out _ (by omega),Below.heap_alloc _ _ _ (by simp;omega),Below.heap_alloc _ _ _ (by simp)]
  exact heap_alloc_last _ _⟩
 have R1:Hid (w1.heap[w.heap.size + 1]?=some (.cells #[.slice none 0 0] 32 (0,0))):=by
  show _=_
  rw [C1.out _ (by omega),Below.heap_alloc _ _ _ (by simp)]
  have:=heap_alloc_last (w.alloc (.cells (vals h (.slice a1 m1 d1) (.slice a2 m2 d2)) 29)) (.cells #[.slice none 0 0] 32)
  rw [World.size_alloc] at this
  exact this
 have R2:Hid (w1.heap[w.heap.size + 1 + 1]?=some (.cells #[.int .i64 0] 33 (0,0))):=by
  show _=_
  rw [C1.out _ (by omega)]
  have:=heap_alloc_last ((w.alloc (.cells (vals h (.slice a1 m1 d1) (.slice a2 m2 d2)) 29)).alloc (.cells #[.slice none 0 0] 32)) (.cells #[.int .i64 0] 33)
  rw [World.size_alloc,World.size_alloc] at this
  exact this
 have c1:w1.cell? ⟨w.heap.size + 1,0,none⟩=some (.slice none 0 0):=by simp [World.cell?,R1.out]
 have f1:w1.frozen? ⟨w.heap.size + 1,0,none⟩=false:=by simp [World.frozen?,R1.out]
 have c2:w1.cell? ⟨w.heap.size + 1 + 1,0,none⟩=some (.int .i64 0):=by simp [World.cell?,R2.out]
 have f2:w1.frozen? ⟨w.heap.size + 1 + 1,0,none⟩=false:=by simp [World.frozen?,R2.out]
 clear hb1 ck
 by_cases e0:E=0
 ·have ne0:(E != 0)=false:=by simpa using e0
  obtain ⟨hi,hw0⟩:IsV n x∧Win n x:=by
   rcases hE'.out with ⟨q,_⟩|⟨q,_⟩|⟨_,q1,q2⟩
   ·omega
   ·omega
   ·exact ⟨q1,q2⟩
  have vk:=hide (fun W (b:Below w.heap.size w W) i (hi2:w.heap.size≤i) (y:WB W i [])=>xlay n x (.slice a1 m1 d1) (.slice a2 m2 d2) w W i ⟨hr'.out.rd,⟨hi,hw0.1,hg'.out⟩,hi2,b,ht'.out,gz'.out⟩ y)
  rw [hh'.out] at vk
  simp only [vals] at vk
  obtain ⟨v0,v1,v2,v3,v4,v5,v6,v7,v8⟩:=V1.out.cells
  have e0':=hide e0
  clear e0 hi hw0
  have zz1:w.heap.size<w1.heap.size:=by omega
  have zz2:w.heap.size + 1<w1.heap.size:=by omega
  go_wp2_with (go_at_call 24;refine Sto.out ?_)
  refine Sto.mk ((vk.out _ (below_al B1.out) w1.heap.size (by omega) ⟨.slice none 0 0,heap_alloc_last _ _,own_nil _ _⟩).mono ?_)
  rintro e w2 hw
  have R1':Hid (w2.heap[w.heap.size + 1]?=some (.cells #[.slice none 0 0] 32 (0,0))):=by show _=_;rw [hw.1.1.block _ (by omega),Below.heap_alloc _ _ _ (by omega)];exact R1.out
  have R2':Hid (w2.heap[w.heap.size + 1 + 1]?=some (.cells #[.int .i64 0] 33 (0,0))):=by show _=_;rw [hw.1.1.block _ (by omega),Below.heap_alloc _ _ _ (by omega)];exact R2.out
  have B2:Hid (Below w.heap.size w w2):=(below_al B1.out).trans (hw.1.1.mono (by omega))
  clear c1 f1 c2 f2 v0 v1 v2 v3 v4 v5 v6 v7 v8
  have c1:w2.cell? ⟨w.heap.size + 1,0,none⟩=some (.slice none 0 0):=by simp [World.cell?,R1'.out]
  have f1:w2.frozen? ⟨w.heap.size + 1,0,none⟩=false:=by simp [World.frozen?,R1'.out]
  have c2:w2.cell? ⟨w.heap.size + 1 + 1,0,none⟩=some (.int .i64 0):=by simp [World.cell?,R2'.out]
  have f2:w2.frozen? ⟨w.heap.size + 1 + 1,0,none⟩=false:=by simp [World.frozen?,R2'.out]
  have n12:w.heap.size + 1≠w.heap.size + 1 + 1:=by omega
  obtain ⟨hf,⟨q1,rfl,v',hv',ho'⟩|⟨q1,rfl⟩⟩:=hw
  ·obtain ⟨b1,b2,b3,rfl⟩:∃ b1 b2 b3,v'=.slice b1 b2 b3:=by
    rcases ho'.2 with ⟨rfl,e⟩|⟨g,cap,cur,rfl,_⟩
    ·exact ⟨_,_,_,rfl⟩
    ·exact ⟨_,_,_,rfl⟩
   have c3:w2.cell? ⟨w1.heap.size,0,none⟩=some (.slice b1 b2 b3):=by simp [World.cell?,hv']
   have O2:=hide ho'
   have Q1:=hide q1
   clear hf hv' ho' q1
   go_wp2_with fail
   refine leaves_cons (f:=39) (args:=#[.pointer (some ⟨w.heap.size + 1,0,none⟩),.pointer (some ⟨w.heap.size + 1 + 1,0,none⟩)]) (by simp) (by simp [go_sem]) ?_
   refine (wcatch_idle ⟨w.heap.size + 1,0,none⟩ ⟨w.heap.size + 1 + 1,0,none⟩ _).mono ?_
   rintro e u' w'' ⟨rfl,rfl,rfl⟩
   simp [Leaves,settle,results,Tryz.results23,go_sem, *]
   have hbb:Below w.heap.size w ((w2.setCell ⟨w.heap.size + 1,0,none⟩ (.slice b1 b2 b3)).setCell ⟨w.heap.size + 1 + 1,0,none⟩ (.int .i64 0)):=(B2.out.setCell (p:=⟨w.heap.size + 1,0,none⟩) (show w.heap.size≤w.heap.size + 1 by omega) _).setCell (p:=⟨w.heap.size + 1 + 1,0,none⟩) (show w.heap.size≤w.heap.size + 1 + 1 by omega) _
   refine ⟨hbb,fun q=>absurd e0'.out q,fun _=>⟨fun _=>⟨b1,b2,b3,rfl,?_⟩,fun q=>(by have:=Q1.out;simp at this;omega)⟩⟩
   have ho:=O2.out
   rw [List.nil_append] at ho
   have hlt:=World.ownsRow.lt ho
   refine ownsRow_of (ownsRow_low ho (by omega)) fun g e hg=>?_
   have:=(hlt g e).1
   rw [heap_set_ne (by omega),heap_set_ne (by omega)]
  ·have Q1:=hide q1
   clear hf q1
   go_wp2_with fail
   unfold pan
   refine leaves_cons (f:=39) (args:=#[.pointer (some ⟨w.heap.size + 1,0,none⟩),.pointer (some ⟨w.heap.size + 1 + 1,0,none⟩)]) (by simp) (by simp [go_sem]) ?_
   refine (wcatch_pan ⟨w.heap.size + 1,0,none⟩ ⟨w.heap.size + 1 + 1,0,none⟩ 0 (.slice none 0 0) [] _ c1 f1 c2 f2 (by simp) 2).mono ?_
   rintro e u' w'' ⟨rfl,rfl,rfl⟩
   simp [Leaves,settle,results,Tryz.results23,go_sem, *]
   have hbb:Below w.heap.size w ((w2.setCell ⟨w.heap.size + 1,0,none⟩ (.slice none 0 0)).setCell ⟨w.heap.size + 1 + 1,0,none⟩ (.int .i64 2)):=(B2.out.setCell (p:=⟨w.heap.size + 1,0,none⟩) (show w.heap.size≤w.heap.size + 1 by omega) _).setCell (p:=⟨w.heap.size + 1 + 1,0,none⟩) (show w.heap.size≤w.heap.size + 1 + 1 by omega) _
   exact ⟨hbb,fun q=>absurd e0'.out q,fun _=>⟨fun q=>(by have:=Q1.out;simp at this;omega),fun _=>rfl⟩⟩
 ·have ne0:(E != 0)=true:=by simpa using e0
  have n12:w.heap.size + 1≠w.heap.size + 1 + 1:=by omega
  go_wp2_with fail
  simp [bodyPostD,Leaves,settle,results,Tryz.results23,go_sem, *]
  have hbb:Below w.heap.size w ((w1.setCell ⟨w.heap.size + 1,0,none⟩ (.slice none 0 0)).setCell ⟨w.heap.size + 1 + 1,0,none⟩ (.int .i64 E)):=(B1.out.setCell (p:=⟨w.heap.size + 1,0,none⟩) (show w.heap.size≤w.heap.size + 1 by omega) _).setCell (p:=⟨w.heap.size + 1 + 1,0,none⟩) (show w.heap.size≤w.heap.size + 1 + 1 by omega) _
  exact ⟨hbb,fun _=>rfl,fun q=>absurd q e0⟩
set_option maxRecDepth 100000 in
theorem xwrite_any (n:Nat) (x:VT n) (ns ls:Value) (w:World) (hr:Rdy n w x ns ls) (hg:Rg n x) (g:Ut.Gu w) (ht:Tab w.heap.size w) (gz:Gz w) (E:Int) (hE:Chk n x E) :
  Calls Tryz.prog 10 #[.agg (vals (vhd n x) ns ls)] w fun e w'=>JW n x E w e w':=by
 have hmf:∀ (fn:Fn) (first cap:Array Value) (w:World),(Instr.makeFunc fn first cap).run Tryz.prog w=.ok (.func fn first cap) w:=fun _ _ _ _=>rfl
 have C:=hide (fun o=>swrite_any n x ns ls (w.alloc o) (hr.below (below_al (Below.refl _ _))) hg (g.below (below_al (Below.refl _ _))) (Tab.of1 ht (below_al (Below.refl _ _))) (gz.low (below_al (Below.refl _ _)) gz.low8) E hE)
 obtain ⟨a1,m1,d1,a2,m2,d2,rfl,rfl⟩:=hr.rd.shape
 obtain ⟨h,hh⟩:∃ h,vhd n x=h:=⟨_,rfl⟩
 rw [hh] at C ⊢
 simp only [vals] at C ⊢
 clear hr hg g ht gz hE hh
 go_enter Tryz.func10, Tryz.ntmps10
 go_wp2_with (go_at_call 23;refine Sto.out ?_)
 refine Sto.mk ((C.out _).mono ?_)
 rintro e w1 hw
 obtain ⟨hb,h1,h2⟩:=hw
 have K:Hid (JW n x E w e w1):=⟨(below_al (Below.refl _ _)).trans (hb.mono (by simp)),h1,fun q=>⟨fun q2=>by
  obtain ⟨a,m,c,e1,ho⟩:=(h2 q).1 q2
  exact ⟨a,m,c,e1,ownsRow_low ho (by simp)⟩,(h2 q).2⟩⟩
 obtain ⟨u,v,rfl⟩:∃ u v,e=.returned (.tuple #[u,v]):=by
  by_cases q:E=0
  ·by_cases q2:(xtx n x).length≤65536
   ·obtain ⟨a,m,c,e1,_⟩:=(h2 q).1 q2
    exact ⟨_,_,e1⟩
   ·exact ⟨_,_,(h2 q).2 (by omega)⟩
  ·exact ⟨_,_,h1 q⟩
 clear hb h1 h2
 go_wp2_with fail
 exact bodyPost_ret (v:=.tuple #[u,v]) (by simp [results,Tryz.results10,go_sem]) rfl K.out
theorem bnd_inr {α β γ:Type} {o:Sum α β} {f:β→Sum α γ} {x:γ} (h:bnd o f=.inr x):∃ y,o=.inr y∧f y=.inr x:=by
 cases o with
 | inl E=>cases h
 | inr y=>exact ⟨y,rfl,h⟩
theorem tellT_f {E0:Int} {t x:Tl} {e:Hd} (h:tellT E0 t e=.inr x):x.n=t.n + 1∧x.total=t.total:=by
 unfold tellT at h
 split at h
 ·cases h
 ·split at h
  ·split at h
   ·cases h
   ·cases h;exact ⟨rfl,rfl⟩
  ·cases h;exact ⟨rfl,rfl⟩
theorem passT_f {t x:Tl} (h:passT t=.inr x):x.n=t.n∧x.total=t.total∧t.total≤16:=by
 unfold passT at h
 split at h
 ·cases h
 ·cases h;exact ⟨rfl,rfl,by omega⟩
theorem countT_f {t x:Tl} (h:countT t=.inr x):x.n=t.n∧x.total=t.total + 1∧x.total≤65536:=by
 unfold countT at h
 split at h
 ·obtain ⟨h1,h2,h3⟩:=passT_f h
  simp only at h1 h2 h3
  exact ⟨h1,h2,by omega⟩
 ·rename_i hn
  cases h
  exact ⟨rfl,rfl,by show t.total + 1≤_;omega⟩
theorem tellN_f {E0:Int} {t x:Tl} {s:ByteArray} (h:tellN E0 t s=.inr x):x.n=t.n + 1∧x.total=t.total:=by
 unfold tellN at h
 split at h
 ·exact tellT_f h
 ·split at h
  ·obtain ⟨y,h1,h2⟩:=bnd_inr h
   obtain ⟨a1,a2,_⟩:=passT_f h1
   obtain ⟨b1,b2⟩:=tellT_f h2
   exact ⟨by omega,by omega⟩
  ·cases h
structure Gx (st x:Xs):Prop where
 n:x.t.n≤st.t.n + 1
 tot:x.t.total=st.t.total
 mkl:x.mark=st.mark
 rf:x.ref.length≤st.ref.length
theorem Gx.same {st x:Xs} (h1:x.t=st.t) (h2:x.mark=st.mark) (h3:x.ref.length≤st.ref.length):Gx st x:=⟨by rw [h1];omega,by rw [h1],h2,h3⟩
theorem elemS_g {st x:Xs} {e:Hd} (h:elemS st e=.inr x):Gx st x:=by
 obtain ⟨y,h1,h2⟩:=bnd_inr h
 obtain ⟨a1,a2⟩:=tellT_f h1
 cases h2
 exact ⟨by show y.n≤_;omega,a2,rfl,Nat.le_refl _⟩
theorem beginS_g {st x:Xs} {e:Hd} (h:beginS st e=.inr x):Gx st x:=by
 obtain ⟨y,h1,h2⟩:=bnd_inr h
 obtain ⟨a1,a2⟩:=tellT_f h1
 cases h2
 exact ⟨by show y.n≤_;omega,a2,rfl,Nat.le_refl _⟩
theorem numS_g {st x:Xs} {s:ByteArray} (h:numS st s=.inr x):Gx st x:=by
 obtain ⟨y,h1,h2⟩:=bnd_inr h
 obtain ⟨a1,a2⟩:=tellN_f h1
 cases h2
 exact ⟨by show y.n≤_;omega,a2,rfl,Nat.le_refl _⟩
theorem Gx.row0 {st x:Xs} (h:Gx (row0 st) x):Gx st x:=⟨h.n,h.tot,h.mkl,Nat.le_trans h.rf (Nat.zero_le _)⟩
theorem endRowS_g {st x:Xs} {k:Int} (h:endRowS st k=.inr x):Gx st x:=by
 unfold endRowS at h
 split at h
 ·cases h
 split at h
 ·exact (numS_g h).row0
 split at h
 ·unfold floatS at h
  split at h
  ·exact (elemS_g h).row0
  ·cases h
 split at h
 ·exact (elemS_g h).row0
 split at h
 ·unfold bytesS at h
  split at h
  ·cases h
  ·exact (elemS_g h).row0
 ·cases h
  exact Gx.row0 (Gx.same rfl rfl (Nat.le_refl _))
theorem markS_g {st x:Xs} {p:Nat×Int×Bool} (h:markS st p=.inr x):Gx st x:=by
 unfold markS at h
 split at h
 ·split at h
  ·cases h
  ·exact elemS_g h
 split at h
 ·split at h
  ·cases h
  ·cases h;exact Gx.same rfl rfl (Nat.le_refl _)
 split at h
 ·exact endRowS_g h
 split at h
 ·split at h
  ·cases h
  ·exact beginS_g h
 split at h
 ·unfold beginNameS at h
  split at h
  ·split at h
   ·cases h
   ·cases h;exact Gx.same rfl rfl (Nat.le_refl _)
  ·split at h
   ·cases h
   ·cases h;exact Gx.same rfl rfl (Nat.le_refl _)
 split at h
 ·unfold endNameS at h
  split at h
  ·cases h
  ·exact (beginS_g h).row0
 ·unfold endPartS at h
  split at h
  ·cases h
  ·split at h
   ·cases h;exact Gx.same rfl rfl (Nat.le_refl _)
   ·have:=elemS_g h
    exact ⟨this.n,this.tot,this.mkl,this.rf⟩
structure Wy (st:Xs):Prop where
 wx:Wx st
 n:st.t.n≤st.t.total
 tot:st.t.total≤65536
theorem holdS_g {st x:Xs} {l:List UInt8} (h:holdS st l=.inr x):x.t=st.t∧x.mark=st.mark∧x.ref=st.ref:=by
 unfold holdS at h
 split at h
 ·cases h
 ·cases h;exact ⟨rfl,rfl,rfl⟩
theorem goX_g {st x:Xs} {c:UInt8} (w:Wx st) (h:goX st c=.inr x):x.t.n≤st.t.n + 1∧x.t.total=st.t.total∧Wx x:=by
 unfold goX at h
 split at h
 ·unfold inMarkS at h
  split at h
  ·have g:=markS_g h
   exact ⟨g.n,g.tot,⟨by rw [g.mkl];exact Nat.zero_le _,Nat.le_trans g.rf w.rf⟩⟩
  ·split at h
   ·cases h
   ·rename_i hne
    cases h
    exact ⟨by show st.t.n≤_;omega,rfl,⟨by show (st.mark++[c]).length≤12;have:=w.mkl;simp;omega,w.rf⟩⟩
 split at h
 ·unfold inRefS at h
  split at h
  ·split at h
   ·cases h
   ·obtain ⟨e1,e2,e3⟩:=holdS_g h
    exact ⟨by rw [e1];show st.t.n≤_;omega,by rw [e1],⟨by rw [e2];exact w.mkl,by rw [e3];exact Nat.zero_le _⟩⟩
  ·split at h
   ·cases h
   ·rename_i hne
    cases h
    exact ⟨by show st.t.n≤_;omega,rfl,⟨w.mkl,by show (st.ref++[c]).length≤9;have:=w.rf;simp;omega⟩⟩
 split at h
 ·cases h
  exact ⟨by show st.t.n≤_;omega,rfl,⟨by show [c].length≤12;simp,w.rf⟩⟩
 split at h
 ·unfold rowS at h
  split at h
  ·cases h
  split at h
  ·rename_i hr _ _ _ _
   cases h
   refine ⟨by show st.t.n≤_;omega,rfl,⟨w.mkl,?_⟩⟩
   show (st.ref++[c]).length≤9
   have:st.ref=[]:=by
    by_cases e:st.ref=[]
    ·exact e
    ·contradiction
   rw [this];simp
  ·obtain ⟨e1,e2,e3⟩:=holdS_g h
   exact ⟨by rw [e1];omega,by rw [e1],⟨by rw [e2];exact w.mkl,by rw [e3];exact w.rf⟩⟩
 split at h
 ·cases h;exact ⟨by omega,rfl,w⟩
 ·cases h
theorem takeX_w {st x:Xs} {c:UInt8} (w:Wy st) (h:takeX st c=.inr x):Wy x:=by
 obtain ⟨t,h1,h2⟩:=bnd_inr h
 obtain ⟨a1,a2,a3⟩:=countT_f h1
 obtain ⟨b1,b2,b3⟩:=goX_g (st:={st with t:=t}) ⟨w.wx.mkl,w.wx.rf⟩ h2
 simp only at b1 b2
 exact ⟨b3,by have:=w.n;omega,by omega⟩
def feedX (st:Xs):List UInt8→Sum Int Xs
 | []=>.inr st
 | c :: l=>bnd (takeX st c) fun x=>feedX x l
theorem feedX_app (st:Xs) (a b:List UInt8):feedX st (a++b)=bnd (feedX st a) fun x=>feedX x b:=by
 induction a generalizing st with
 | nil=>rfl
 | cons c a ih =>
  show bnd (takeX st c) (fun x=>feedX x (a++b))=bnd (bnd (takeX st c) fun x=>feedX x a) fun x=>feedX x b
  cases takeX st c with
  | inl E=>rfl
  | inr y=>exact ih y
theorem feedX_snoc (st:Xs) (a:List UInt8) (c:UInt8):feedX st (a++[c])=bnd (feedX st a) fun x=>takeX x c:=by
 rw [feedX_app]
 cases feedX st a with
 | inl E=>rfl
 | inr y =>
  show bnd (takeX y c) (fun x=>.inr x)=takeX y c
  cases takeX y c <;> rfl
def bdX (st:Xs):List UInt8→Bool
 | []=>false
 | c :: l=>(c==59 && (refC (st.ref++[c])).isNone) || (match takeX st c with
  | .inr x=>bdX x l
  | .inl _=>false)
theorem bd_at:∀ (l:List UInt8) (st:Xs) (k:Nat) (h:k<l.length) (x:Xs),feedX st (l.take k)=.inr x→bdR x l[k]→bdX st l=true
 | [],st,k,h,x,hf,hb=>by simp at h
 | c :: l,st,0,h,x,hf,hb=>by
  cases hf
  obtain ⟨h1,h2⟩:=hb
  simp only [List.getElem_cons_zero] at h1 h2
  unfold bdX
  rw [h2,h1]
  rfl
 | c :: l,st,k + 1,h,x,hf,hb=>by
  simp only [List.take_succ_cons] at hf
  obtain ⟨y,h1,h2⟩:=bnd_inr hf
  have:=bd_at l y k (by simpa using h) x h2 (by simpa using hb)
  unfold bdX
  rw [h1]
  simp only [this,Bool.or_true]
theorem feedX_w {l:List UInt8} {st x:Xs} (w:Wy st) (h:feedX st l=.inr x):Wy x:=by
 induction l generalizing st with
 | nil=>cases h;exact w
 | cons c l ih =>
  obtain ⟨y,h1,h2⟩:=bnd_inr h
  exact ih (takeX_w w h1) h2
theorem x0_w:Wy x0:=⟨⟨Nat.zero_le _,Nat.zero_le _⟩,Nat.le_refl _,Nat.zero_le _⟩
section
variable {W W1 W2 : World} {r : Nat} {g : Tg} {m m1 : Xm} {st : Xs}
set_option maxRecDepth 100000 in
theorem attF_x (h:XM W r g m st) {p q s:Nat} (o:Sum Int Xs) (DO:∀ w1,XM w1 r g m st→XF g m W w1→Calls Tryz.prog 57 #[.pointer (some ⟨p,0,none⟩),.pointer (some ⟨q,0,none⟩),.pointer (some ⟨s,0,none⟩)] w1 fun e w'=>XP w1 r g m o e w') :
  Calls Tryz.prog 56 #[.pointer (some ⟨g.t,0,none⟩),.func (.func 57) #[] #[.pointer (some ⟨p,0,none⟩),.pointer (some ⟨q,0,none⟩),.pointer (some ⟨s,0,none⟩)]] W fun e w'=>AT W r g m o e w':=by
 have hmf:∀ (fn:Fn) (first cap:Array Value) (w:World),(Instr.makeFunc fn first cap).run Tryz.prog w=.ok (.func fn first cap) w:=fun _ _ _ _=>rfl
 have hlt:=h.lt
 obtain ⟨W3,hW3⟩:∃ W3,W3=((W.alloc (.cells #[.pointer (some ⟨g.t,0,none⟩)] 62)).alloc (.cells #[.slice none 0 0] 45)).alloc (.cells #[.int .i64 0] 33):=⟨_,rfl⟩
 have B3:Hid (Below W.heap.size W W3):=by rw [hW3];exact below_al (below_al (below_al (Below.refl _ _)))
 have M3:=hide (h.then B3.out)
 have nb:=fun k (hk:W.heap.size≤k)=>h.nob hk
 have X1:Hid (Bo W3 m W.heap.size (.pointer (some ⟨g.t,0,none⟩)) 62):=⟨by
  rw [hW3,Below.heap_alloc _ _ _ (by simp;omega),Below.heap_alloc _ _ _ (by simp)];exact heap_alloc_last _ _,nb _ (Nat.le_refl _)⟩
 have X2:Hid (Bo W3 m (W.heap.size + 1) (.slice none 0 0) 45):=⟨by
  rw [hW3,Below.heap_alloc _ _ _ (by simp)]
  have:=heap_alloc_last (W.alloc (.cells #[.pointer (some ⟨g.t,0,none⟩)] 62)) (.cells #[.slice none 0 0] 45)
  rw [World.size_alloc] at this
  exact this,nb _ (Nat.le_succ _)⟩
 have X3:Hid (Bo W3 m (W.heap.size + 1 + 1) (.int .i64 0) 33):=⟨by
  rw [hW3]
  have:=heap_alloc_last ((W.alloc (.cells #[.pointer (some ⟨g.t,0,none⟩)] 62)).alloc (.cells #[.slice none 0 0] 45)) (.cells #[.int .i64 0] 33)
  rw [World.size_alloc,World.size_alloc] at this
  exact this,nb _ (by omega)⟩
 have lo:=hide h.low
 have gkr:=hide h.t.gk.loR
 have htl:=h.t.lt
 have D3:=hide (DO W3 M3.out (XF.of B3.out lo.out))
 rw [hW3] at D3
 have c0:=(M3.out.t.tb.cell 1).trans (show _=some (.int .i64 0) from rfl)
 have c1:=X1.out.cell
 have c2:=X2.out.cell
 have c3:=X3.out.cell
 rw [hW3] at c0 c1 c2 c3
 clear h nb DO
 obtain ⟨k,hk⟩:∃ k,W.heap.size=k:=⟨_,rfl⟩
 have hk':=hide hk
 rw [hk] at c1 c2 c3 X1 X2 X3
 cases o with
 | inl E =>
  go_enter_defers Tryz.func56, Tryz.ntmps56
  go_wp2_with (go_at_call 57;refine Sto.out ?_)
  refine Sto.mk (D3.out.mono ?_)
  rintro e w1 ⟨hp1,rfl,⟨s2,hp4,hs2⟩,s1,hp2⟩
  rw [←hW3] at hp1
  have F1:Hid (XF g m W w1):=(XF.of B3.out lo.out).trans (OMx.refl _ _) hp1
  have Y1:=hide (X1.out.move hp1 (OMx.refl _ _) noT_tl)
  have Y2:=hide (X2.out.move hp1 (OMx.refl _ _) noT_ev)
  have Y3:=hide (X3.out.move hp1 (OMx.refl _ _) noT_er)
  have R1:=hide hp2
  have R2:=hide hp4
  have d1:=Y1.out.cell
  have d2:=Y2.out.cell
  have d3:=Y3.out.cell
  have f2:=Y2.out.frz
  have f3:=Y3.out.frz
  clear c0 c1 c2 c3 hp1 hp2 hp4
  have rk:g.t<k:=by omega
  have rk2:r<k:=by omega
  go_wp2_with fail
  unfold pan
  refine leaves_cons (f:=85) (args:=#[.pointer (some ⟨k,0,none⟩),.pointer (some ⟨k + 1,0,none⟩),.pointer (some ⟨k + 1 + 1,0,none⟩)]) (by simp) (by simp [go_sem]) ?_
  refine (acatch_pan k (k + 1) (k + 1 + 1) g.t s1 0 (.slice none 0 0) [] _ d1 R1.out d2 f2 d3 f3 (by omega) (by omega) (by omega) E).mono ?_
  rintro e u' w'' ⟨rfl,rfl,rfl⟩
  have DR:=dead_rd R1.out E
  have DB:=dead_but w1 g.t E
  obtain ⟨D,hD⟩:∃ D,dead7 w1 g.t E=D:=⟨_,rfl⟩
  rw [hD] at DR DB ⊢
  have g2:Bo D m (k + 1) (.slice none 0 0) 45:=⟨(DB.blk _ (by omega)).trans Y2.out.1,Y2.out.2⟩
  have g3:Bo D m (k + 1 + 1) (.int .i64 0) 33:=⟨(DB.blk _ (by omega)).trans Y3.out.1,Y3.out.2⟩
  have e2:((D.setCell ⟨k + 1,0,none⟩ (.slice none 0 0)).setCell ⟨k + 1 + 1,0,none⟩ (.int .i64 E)).cell? ⟨k + 1,0,none⟩=some (.slice none 0 0):=((g2.set _).other (by omega)).cell
  have e3:((D.setCell ⟨k + 1,0,none⟩ (.slice none 0 0)).setCell ⟨k + 1 + 1,0,none⟩ (.int .i64 E)).cell? ⟨k + 1 + 1,0,none⟩=some (.int .i64 E):=((g3.other (b:=k + 1) (j:=0) (u:=.slice none 0 0) (by omega)).set _).cell
  have FD:XF g m W D:=by
   refine ⟨F1.out.below.trans (DB.below (by have:=gkr.out;omega)),fun q c T f hq t1 t2 t3 t4 t5 t6 t7 n1 n2 n3 n4=>?_⟩
   rw [DB.blk q (fun e=>?_)]
   ·exact F1.out.keep q c T f hq t1 t2 t3 t4 t5 t6 t7 n1 n2 n3 n4
   ·have:=F1.out.keep q c T f hq t1 t2 t3 t4 t5 t6 t7 n1 n2 n3 n4
    have hr:=R1.out
    unfold TlB at hr
    rw [e,hr] at this
    exact t2 (cells_ty this).symm
  have RZ:TlE ((D.setCell ⟨k + 1,0,none⟩ (.slice none 0 0)).setCell ⟨k + 1 + 1,0,none⟩ (.int .i64 E)) g.t E:=by
   unfold TlE
   rw [Below.heap_setCell _ _ _ _ (show g.t≠k + 1 + 1 by omega),Below.heap_setCell _ _ _ _ (show g.t≠k + 1 by omega)]
   exact DR
  have XZ:XdB ((D.setCell ⟨k + 1,0,none⟩ (.slice none 0 0)).setCell ⟨k + 1 + 1,0,none⟩ (.int .i64 E)) r s2:=by
   have hx:=R2.out
   unfold XdB at hx ⊢
   rw [Below.heap_setCell _ _ _ _ (show r≠k + 1 + 1 by omega),Below.heap_setCell _ _ _ _ (show r≠k + 1 by omega),DB.blk r (fun e=>?_)]
   ·exact hx
   ·have hr:=R1.out
    unfold TlB at hr
    rw [e,hr] at hx
    exact absurd (cells_ty hx) (by decide)
  have FZ:=(FD.bx (k:=k + 1) (by rw [hk'.out];omega) lo.out (.slice none 0 0)).bx (k:=k + 1 + 1) (by rw [hk'.out];omega) lo.out (.int .i64 E)
  obtain ⟨Z,hZ⟩:∃ Z,(D.setCell ⟨k + 1,0,none⟩ (.slice none 0 0)).setCell ⟨k + 1 + 1,0,none⟩ (.int .i64 E)=Z:=⟨_,rfl⟩
  rw [hZ] at e2 e3 RZ XZ FZ ⊢
  clear hZ g2 g3 FD hD DR DB
  simp [Leaves,settle,results,Tryz.results56,go_sem,e2,e3]
  exact ⟨FZ,rfl,RZ,s2,XZ,hs2⟩
 | inr x =>
  go_enter_defers Tryz.func56, Tryz.ntmps56
  go_wp2_with (go_at_call 57;refine Sto.out ?_)
  refine Sto.mk (D3.out.mono ?_)
  rintro e w1 ⟨hp1,rfl,m1,hp2,hp3⟩
  rw [←hW3] at hp1 hp3
  have F1:Hid (XF g m W w1):=(XF.of B3.out lo.out).trans (OMx.refl _ _) hp1
  have O1:Hid (OMx W m m1):=(OMx.refl _ _).trans hp3 B3.out.size
  have Y1:=hide (X1.out.move hp1 hp3 noT_tl)
  have Y2:=hide (X2.out.move hp1 hp3 noT_ev)
  have Y3:=hide (X3.out.move hp1 hp3 noT_er)
  have M1:=hide hp2
  obtain ⟨ta,tc,hT⟩:=hp2.t.shT
  have d1:=Y1.out.cell
  have d2:=Y2.out.cell
  have d3:=Y3.out.cell
  have f2:=Y2.out.frz
  have f3:=Y3.out.frz
  have d14:w1.cell? ⟨g.t,6,none⟩=some (.slice ta x.t.told.length tc):=(hp2.t.tb.cell 6).trans (by rw [←hT];rfl)
  have f14:w1.frozen? ⟨g.t,6,none⟩=false:=hp2.t.tb.frz 6
  have hT':=hide hT
  clear c0 c1 c2 c3 hp1 hp2 hp3 hT
  have rk:g.t<k:=by omega
  have rk2:r<k:=by omega
  have n1:¬ g.t=k:=by omega
  have n2:¬ g.t=k + 1:=by omega
  have n3:¬ g.t=k + 1 + 1:=by omega
  have n4:¬ k + 1=g.t:=by omega
  have n5:¬ k=g.t:=by omega
  go_wp2_with fail
  refine wp_region_noPanic ?_
  go_region_with (fail)
  all_goals
   refine NoPanic.normal ?_
   go_wp2_with fail
   refine leaves_cons (f:=85) (args:=#[.pointer (some ⟨k,0,none⟩),.pointer (some ⟨k + 1,0,none⟩),.pointer (some ⟨k + 1 + 1,0,none⟩)]) (by simp) (by simp [go_sem]) ?_
   refine (acatch_idle ⟨k,0,none⟩ ⟨k + 1,0,none⟩ ⟨k + 1 + 1,0,none⟩ _).mono ?_
   rintro e u' w'' ⟨rfl,rfl,rfl⟩
   have hlo:g.lo≤k:=by have:=lo.out;rw [hk'.out] at this;exact this
   have A1:=M1.out.bx Y2.out noT_ev (by omega) (.slice ta x.t.told.length tc)
   have A2:=A1.t0
   have G2:=((Y2.out.set (.slice ta x.t.told.length tc)).other (b:=g.t) (j:=6) (u:=.slice none 0 0) (by omega))
   have G3:=((Y3.out.other (b:=k + 1) (j:=0) (u:=.slice ta x.t.told.length tc) (by omega)).other (b:=g.t) (j:=6) (u:=.slice none 0 0) (by omega))
   have nn:∀ {q:Nat},NoX m1 q→NoX {m1 with t:={m1.t with told:=.slice none 0 0} } q:=fun nb=>⟨nb.1,nb.2.1,nb.2.2.1,fun e=>by cases e⟩
   have A3:=A2.1.bx ⟨G2.1,nn G2.2⟩ noT_ev (by omega) (.slice ta x.t.told.length tc)
   have G2':=G2.set (.slice ta x.t.told.length tc)
   have G3':=G3.other (b:=k + 1) (j:=0) (u:=.slice ta x.t.told.length tc) (by omega)
   have A4:=A3.bx ⟨G3'.1,nn G3'.2⟩ noT_er (by omega) (.int .i64 0)
   have G2'':=G2'.other (b:=k + 1 + 1) (j:=0) (u:=.int .i64 0) (by omega)
   have G3'':=G3'.set (.int .i64 0)
   have P1:=F1.out.bx (k:=k + 1) (by rw [hk'.out];omega) lo.out (.slice ta x.t.told.length tc)
   have P2:=P1.trans O1.out A2.2.1
   have P3:=P2.bx (k:=k + 1) (by rw [hk'.out];omega) lo.out (.slice ta x.t.told.length tc)
   have P4:=P3.bx (k:=k + 1 + 1) (by rw [hk'.out];omega) lo.out (.int .i64 0)
   have OT:w1.ownsRow (g.t + 1) 76 7 (.slice ta x.t.told.length tc) x.t.told.length (ecs x.t.told):=hT'.out ▸ M1.out.t.told
   have nbt:=fun q (hq:(Value.slice ta x.t.told.length tc).ownBlock=some q)=>(show q≠g.t∧q≠k + 1∧q≠k + 1 + 1 from ⟨by have:=(World.ownsRow.lt OT q hq).1;omega,fun e=>Y2.out.2.2.2.2 (by rw [hT'.out,hq,e]),fun e=>Y3.out.2.2.2.2 (by rw [hT'.out,hq,e])⟩)
   have OZ:((((w1.setCell ⟨k + 1,0,none⟩ (.slice ta x.t.told.length tc)).setCell ⟨g.t,6,none⟩ (.slice none 0 0)).setCell ⟨k + 1,0,none⟩ (.slice ta x.t.told.length tc)).setCell ⟨k + 1 + 1,0,none⟩ (.int .i64 0)).ownsRow (g.t + 1) 76 7 (.slice ta x.t.told.length tc) x.t.told.length (ecs x.t.told):=own_of OT fun q hq _=>by
    obtain ⟨q1,q2,q3⟩:=nbt q hq
    rw [Below.heap_setCell _ _ _ _ q3,Below.heap_setCell _ _ _ _ q2,Below.heap_setCell _ _ _ _ q1,Below.heap_setCell _ _ _ _ q2]
   have OBv:OB W m.t.told (.slice ta x.t.told.length tc):=by rw [←hT'.out];exact O1.out.told
   have OMm:OMx W m {m1 with t:={m1.t with told:=.slice none 0 0} }:=⟨O1.out.mark,O1.out.held,O1.out.ref,Or.inr fun q hq=>by cases hq⟩
   have dr:=fun (Z:World)=>(dn_b Z 1)
   obtain ⟨Z,hZ⟩:∃ Z,(((w1.setCell ⟨k + 1,0,none⟩ (.slice ta x.t.told.length tc)).setCell ⟨g.t,6,none⟩ (.slice none 0 0)).setCell ⟨k + 1,0,none⟩ (.slice ta x.t.told.length tc)).setCell ⟨k + 1 + 1,0,none⟩ (.int .i64 0)=Z:=⟨_,rfl⟩
   rw [hZ] at A4 G2'' G3'' P4 OZ ⊢
   have e2:Z.drew.cell? ⟨k + 1,0,none⟩=some (.slice ta x.t.told.length tc):=G2''.cell
   have e3:Z.drew.cell? ⟨k + 1 + 1,0,none⟩=some (.int .i64 0):=G3''.cell
   clear hZ A1 A2 A3 G2 G3 G2' G3' P1 P2 P3
   simp [Leaves,settle,results,Tryz.results56,go_sem,e2,e3]
   refine ⟨P4.trans (OMx.refl _ _) (XF.of (Below.refl Z.heap.size Z).drew (by have:=P4.below.size;have:=lo.out;omega)),{m1 with t:={m1.t with told:=.slice none 0 0} },.slice ta x.t.told.length tc,rfl,A4.then (Below.refl Z.heap.size Z).drew,OMm,rfl,own_of OZ fun q _ _=>rfl,OBv⟩
end
section
variable {W W1 W2 : World} {r : Nat} {g : Tg} {m m1 : Xm} {st : Xs}
set_option maxRecDepth 100000 in
theorem attE_x (h:XM W r g m st) {p q:Nat} (o:Sum Int Xs) (DO:∀ w1,XM w1 r g m st→XF g m W w1→Calls Tryz.prog 63 #[.pointer (some ⟨p,0,none⟩),.pointer (some ⟨q,0,none⟩)] w1 fun e w'=>XP w1 r g m o e w') :
  Calls Tryz.prog 56 #[.pointer (some ⟨g.t,0,none⟩),.func (.func 63) #[] #[.pointer (some ⟨p,0,none⟩),.pointer (some ⟨q,0,none⟩)]] W fun e w'=>AT W r g m o e w':=by
 have hmf:∀ (fn:Fn) (first cap:Array Value) (w:World),(Instr.makeFunc fn first cap).run Tryz.prog w=.ok (.func fn first cap) w:=fun _ _ _ _=>rfl
 have hlt:=h.lt
 obtain ⟨W3,hW3⟩:∃ W3,W3=((W.alloc (.cells #[.pointer (some ⟨g.t,0,none⟩)] 62)).alloc (.cells #[.slice none 0 0] 45)).alloc (.cells #[.int .i64 0] 33):=⟨_,rfl⟩
 have B3:Hid (Below W.heap.size W W3):=by rw [hW3];exact below_al (below_al (below_al (Below.refl _ _)))
 have M3:=hide (h.then B3.out)
 have nb:=fun k (hk:W.heap.size≤k)=>h.nob hk
 have X1:Hid (Bo W3 m W.heap.size (.pointer (some ⟨g.t,0,none⟩)) 62):=⟨by
  rw [hW3,Below.heap_alloc _ _ _ (by simp;omega),Below.heap_alloc _ _ _ (by simp)];exact heap_alloc_last _ _,nb _ (Nat.le_refl _)⟩
 have X2:Hid (Bo W3 m (W.heap.size + 1) (.slice none 0 0) 45):=⟨by
  rw [hW3,Below.heap_alloc _ _ _ (by simp)]
  have:=heap_alloc_last (W.alloc (.cells #[.pointer (some ⟨g.t,0,none⟩)] 62)) (.cells #[.slice none 0 0] 45)
  rw [World.size_alloc] at this
  exact this,nb _ (Nat.le_succ _)⟩
 have X3:Hid (Bo W3 m (W.heap.size + 1 + 1) (.int .i64 0) 33):=⟨by
  rw [hW3]
  have:=heap_alloc_last ((W.alloc (.cells #[.pointer (some ⟨g.t,0,none⟩)] 62)).alloc (.cells #[.slice none 0 0] 45)) (.cells #[.int .i64 0] 33)
  rw [World.size_alloc,World.size_alloc] at this
  exact this,nb _ (by omega)⟩
 have lo:=hide h.low
 have gkr:=hide h.t.gk.loR
 have htl:=h.t.lt
 have D3:=hide (DO W3 M3.out (XF.of B3.out lo.out))
 rw [hW3] at D3
 have c0:=(M3.out.t.tb.cell 1).trans (show _=some (.int .i64 0) from rfl)
 have c1:=X1.out.cell
 have c2:=X2.out.cell
 have c3:=X3.out.cell
 rw [hW3] at c0 c1 c2 c3
 clear h nb DO
 obtain ⟨k,hk⟩:∃ k,W.heap.size=k:=⟨_,rfl⟩
 have hk':=hide hk
 rw [hk] at c1 c2 c3 X1 X2 X3
 cases o with
 | inl E =>
  go_enter_defers Tryz.func56, Tryz.ntmps56
  go_wp2_with (go_at_call 63;refine Sto.out ?_)
  refine Sto.mk (D3.out.mono ?_)
  rintro e w1 ⟨hp1,rfl,⟨s2,hp4,hs2⟩,s1,hp2⟩
  rw [←hW3] at hp1
  have F1:Hid (XF g m W w1):=(XF.of B3.out lo.out).trans (OMx.refl _ _) hp1
  have Y1:=hide (X1.out.move hp1 (OMx.refl _ _) noT_tl)
  have Y2:=hide (X2.out.move hp1 (OMx.refl _ _) noT_ev)
  have Y3:=hide (X3.out.move hp1 (OMx.refl _ _) noT_er)
  have R1:=hide hp2
  have R2:=hide hp4
  have d1:=Y1.out.cell
  have d2:=Y2.out.cell
  have d3:=Y3.out.cell
  have f2:=Y2.out.frz
  have f3:=Y3.out.frz
  clear c0 c1 c2 c3 hp1 hp2 hp4
  have rk:g.t<k:=by omega
  have rk2:r<k:=by omega
  go_wp2_with fail
  unfold pan
  refine leaves_cons (f:=85) (args:=#[.pointer (some ⟨k,0,none⟩),.pointer (some ⟨k + 1,0,none⟩),.pointer (some ⟨k + 1 + 1,0,none⟩)]) (by simp) (by simp [go_sem]) ?_
  refine (acatch_pan k (k + 1) (k + 1 + 1) g.t s1 0 (.slice none 0 0) [] _ d1 R1.out d2 f2 d3 f3 (by omega) (by omega) (by omega) E).mono ?_
  rintro e u' w'' ⟨rfl,rfl,rfl⟩
  have DR:=dead_rd R1.out E
  have DB:=dead_but w1 g.t E
  obtain ⟨D,hD⟩:∃ D,dead7 w1 g.t E=D:=⟨_,rfl⟩
  rw [hD] at DR DB ⊢
  have g2:Bo D m (k + 1) (.slice none 0 0) 45:=⟨(DB.blk _ (by omega)).trans Y2.out.1,Y2.out.2⟩
  have g3:Bo D m (k + 1 + 1) (.int .i64 0) 33:=⟨(DB.blk _ (by omega)).trans Y3.out.1,Y3.out.2⟩
  have e2:((D.setCell ⟨k + 1,0,none⟩ (.slice none 0 0)).setCell ⟨k + 1 + 1,0,none⟩ (.int .i64 E)).cell? ⟨k + 1,0,none⟩=some (.slice none 0 0):=((g2.set _).other (by omega)).cell
  have e3:((D.setCell ⟨k + 1,0,none⟩ (.slice none 0 0)).setCell ⟨k + 1 + 1,0,none⟩ (.int .i64 E)).cell? ⟨k + 1 + 1,0,none⟩=some (.int .i64 E):=((g3.other (b:=k + 1) (j:=0) (u:=.slice none 0 0) (by omega)).set _).cell
  have FD:XF g m W D:=by
   refine ⟨F1.out.below.trans (DB.below (by have:=gkr.out;omega)),fun q c T f hq t1 t2 t3 t4 t5 t6 t7 n1 n2 n3 n4=>?_⟩
   rw [DB.blk q (fun e=>?_)]
   ·exact F1.out.keep q c T f hq t1 t2 t3 t4 t5 t6 t7 n1 n2 n3 n4
   ·have:=F1.out.keep q c T f hq t1 t2 t3 t4 t5 t6 t7 n1 n2 n3 n4
    have hr:=R1.out
    unfold TlB at hr
    rw [e,hr] at this
    exact t2 (cells_ty this).symm
  have RZ:TlE ((D.setCell ⟨k + 1,0,none⟩ (.slice none 0 0)).setCell ⟨k + 1 + 1,0,none⟩ (.int .i64 E)) g.t E:=by
   unfold TlE
   rw [Below.heap_setCell _ _ _ _ (show g.t≠k + 1 + 1 by omega),Below.heap_setCell _ _ _ _ (show g.t≠k + 1 by omega)]
   exact DR
  have XZ:XdB ((D.setCell ⟨k + 1,0,none⟩ (.slice none 0 0)).setCell ⟨k + 1 + 1,0,none⟩ (.int .i64 E)) r s2:=by
   have hx:=R2.out
   unfold XdB at hx ⊢
   rw [Below.heap_setCell _ _ _ _ (show r≠k + 1 + 1 by omega),Below.heap_setCell _ _ _ _ (show r≠k + 1 by omega),DB.blk r (fun e=>?_)]
   ·exact hx
   ·have hr:=R1.out
    unfold TlB at hr
    rw [e,hr] at hx
    exact absurd (cells_ty hx) (by decide)
  have FZ:=(FD.bx (k:=k + 1) (by rw [hk'.out];omega) lo.out (.slice none 0 0)).bx (k:=k + 1 + 1) (by rw [hk'.out];omega) lo.out (.int .i64 E)
  obtain ⟨Z,hZ⟩:∃ Z,(D.setCell ⟨k + 1,0,none⟩ (.slice none 0 0)).setCell ⟨k + 1 + 1,0,none⟩ (.int .i64 E)=Z:=⟨_,rfl⟩
  rw [hZ] at e2 e3 RZ XZ FZ ⊢
  clear hZ g2 g3 FD hD DR DB
  simp [Leaves,settle,results,Tryz.results56,go_sem,e2,e3]
  exact ⟨FZ,rfl,RZ,s2,XZ,hs2⟩
 | inr x =>
  go_enter_defers Tryz.func56, Tryz.ntmps56
  go_wp2_with (go_at_call 63;refine Sto.out ?_)
  refine Sto.mk (D3.out.mono ?_)
  rintro e w1 ⟨hp1,rfl,m1,hp2,hp3⟩
  rw [←hW3] at hp1 hp3
  have F1:Hid (XF g m W w1):=(XF.of B3.out lo.out).trans (OMx.refl _ _) hp1
  have O1:Hid (OMx W m m1):=(OMx.refl _ _).trans hp3 B3.out.size
  have Y1:=hide (X1.out.move hp1 hp3 noT_tl)
  have Y2:=hide (X2.out.move hp1 hp3 noT_ev)
  have Y3:=hide (X3.out.move hp1 hp3 noT_er)
  have M1:=hide hp2
  obtain ⟨ta,tc,hT⟩:=hp2.t.shT
  have d1:=Y1.out.cell
  have d2:=Y2.out.cell
  have d3:=Y3.out.cell
  have f2:=Y2.out.frz
  have f3:=Y3.out.frz
  have d14:w1.cell? ⟨g.t,6,none⟩=some (.slice ta x.t.told.length tc):=(hp2.t.tb.cell 6).trans (by rw [←hT];rfl)
  have f14:w1.frozen? ⟨g.t,6,none⟩=false:=hp2.t.tb.frz 6
  have hT':=hide hT
  clear c0 c1 c2 c3 hp1 hp2 hp3 hT
  have rk:g.t<k:=by omega
  have rk2:r<k:=by omega
  have n1:¬ g.t=k:=by omega
  have n2:¬ g.t=k + 1:=by omega
  have n3:¬ g.t=k + 1 + 1:=by omega
  have n4:¬ k + 1=g.t:=by omega
  have n5:¬ k=g.t:=by omega
  go_wp2_with fail
  refine wp_region_noPanic ?_
  go_region_with (fail)
  all_goals
   refine NoPanic.normal ?_
   go_wp2_with fail
   refine leaves_cons (f:=85) (args:=#[.pointer (some ⟨k,0,none⟩),.pointer (some ⟨k + 1,0,none⟩),.pointer (some ⟨k + 1 + 1,0,none⟩)]) (by simp) (by simp [go_sem]) ?_
   refine (acatch_idle ⟨k,0,none⟩ ⟨k + 1,0,none⟩ ⟨k + 1 + 1,0,none⟩ _).mono ?_
   rintro e u' w'' ⟨rfl,rfl,rfl⟩
   have hlo:g.lo≤k:=by have:=lo.out;rw [hk'.out] at this;exact this
   have A1:=M1.out.bx Y2.out noT_ev (by omega) (.slice ta x.t.told.length tc)
   have A2:=A1.t0
   have G2:=((Y2.out.set (.slice ta x.t.told.length tc)).other (b:=g.t) (j:=6) (u:=.slice none 0 0) (by omega))
   have G3:=((Y3.out.other (b:=k + 1) (j:=0) (u:=.slice ta x.t.told.length tc) (by omega)).other (b:=g.t) (j:=6) (u:=.slice none 0 0) (by omega))
   have nn:∀ {q:Nat},NoX m1 q→NoX {m1 with t:={m1.t with told:=.slice none 0 0} } q:=fun nb=>⟨nb.1,nb.2.1,nb.2.2.1,fun e=>by cases e⟩
   have A3:=A2.1.bx ⟨G2.1,nn G2.2⟩ noT_ev (by omega) (.slice ta x.t.told.length tc)
   have G2':=G2.set (.slice ta x.t.told.length tc)
   have G3':=G3.other (b:=k + 1) (j:=0) (u:=.slice ta x.t.told.length tc) (by omega)
   have A4:=A3.bx ⟨G3'.1,nn G3'.2⟩ noT_er (by omega) (.int .i64 0)
   have G2'':=G2'.other (b:=k + 1 + 1) (j:=0) (u:=.int .i64 0) (by omega)
   have G3'':=G3'.set (.int .i64 0)
   have P1:=F1.out.bx (k:=k + 1) (by rw [hk'.out];omega) lo.out (.slice ta x.t.told.length tc)
   have P2:=P1.trans O1.out A2.2.1
   have P3:=P2.bx (k:=k + 1) (by rw [hk'.out];omega) lo.out (.slice ta x.t.told.length tc)
   have P4:=P3.bx (k:=k + 1 + 1) (by rw [hk'.out];omega) lo.out (.int .i64 0)
   have OT:w1.ownsRow (g.t + 1) 76 7 (.slice ta x.t.told.length tc) x.t.told.length (ecs x.t.told):=hT'.out ▸ M1.out.t.told
   have nbt:=fun q (hq:(Value.slice ta x.t.told.length tc).ownBlock=some q)=>(show q≠g.t∧q≠k + 1∧q≠k + 1 + 1 from ⟨by have:=(World.ownsRow.lt OT q hq).1;omega,fun e=>Y2.out.2.2.2.2 (by rw [hT'.out,hq,e]),fun e=>Y3.out.2.2.2.2 (by rw [hT'.out,hq,e])⟩)
   have OZ:((((w1.setCell ⟨k + 1,0,none⟩ (.slice ta x.t.told.length tc)).setCell ⟨g.t,6,none⟩ (.slice none 0 0)).setCell ⟨k + 1,0,none⟩ (.slice ta x.t.told.length tc)).setCell ⟨k + 1 + 1,0,none⟩ (.int .i64 0)).ownsRow (g.t + 1) 76 7 (.slice ta x.t.told.length tc) x.t.told.length (ecs x.t.told):=own_of OT fun q hq _=>by
    obtain ⟨q1,q2,q3⟩:=nbt q hq
    rw [Below.heap_setCell _ _ _ _ q3,Below.heap_setCell _ _ _ _ q2,Below.heap_setCell _ _ _ _ q1,Below.heap_setCell _ _ _ _ q2]
   have OBv:OB W m.t.told (.slice ta x.t.told.length tc):=by rw [←hT'.out];exact O1.out.told
   have OMm:OMx W m {m1 with t:={m1.t with told:=.slice none 0 0} }:=⟨O1.out.mark,O1.out.held,O1.out.ref,Or.inr fun q hq=>by cases hq⟩
   have dr:=fun (Z:World)=>(dn_b Z 1)
   obtain ⟨Z,hZ⟩:∃ Z,(((w1.setCell ⟨k + 1,0,none⟩ (.slice ta x.t.told.length tc)).setCell ⟨g.t,6,none⟩ (.slice none 0 0)).setCell ⟨k + 1,0,none⟩ (.slice ta x.t.told.length tc)).setCell ⟨k + 1 + 1,0,none⟩ (.int .i64 0)=Z:=⟨_,rfl⟩
   rw [hZ] at A4 G2'' G3'' P4 OZ ⊢
   have e2:Z.drew.cell? ⟨k + 1,0,none⟩=some (.slice ta x.t.told.length tc):=G2''.cell
   have e3:Z.drew.cell? ⟨k + 1 + 1,0,none⟩=some (.int .i64 0):=G3''.cell
   clear hZ A1 A2 A3 G2 G3 G2' G3' P1 P2 P3
   simp [Leaves,settle,results,Tryz.results56,go_sem,e2,e3]
   refine ⟨P4.trans (OMx.refl _ _) (XF.of (Below.refl Z.heap.size Z).drew (by have:=P4.below.size;have:=lo.out;omega)),{m1 with t:={m1.t with told:=.slice none 0 0} },.slice ta x.t.told.length tc,rfl,A4.then (Below.refl Z.heap.size Z).drew,OMm,rfl,own_of OZ fun q _ _=>rfl,OBv⟩
end
end Go.Proofs.YthodiandebahdaaGreatDoor
