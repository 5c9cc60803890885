/- Merged by program: PxRead, PdRec, PeLike, PfFill, PyPType, PzTypes. -/
import Derived.Test.YtcnfchblfcfimaaGreatDoorZr33
import Derived.Test.YtcnfchblfcfimaaGreatDoorZr39
import Derived.Test.YtcnfchblfcfimaaGreatDoorZr37
import Derived.Test.YtcnfchblfcfimaaGreatDoorZr30
import Derived.Test.YtcnfchblfcfimaaGreatDoorZr18
set_option linter.unusedSimpArgs false
set_option linter.unusedVariables false
namespace Go.Proofs.YtcnfchblfcfimaaGreatDoor
namespace Lx
open Go.RowKit
set_option maxHeartbeats 1000000 in
set_option maxRecDepth 100000 in
theorem tcatch_idle (p q:Addr) (w:World) :
  CallsD Tryz.prog 94 #[.pointer (some p),.pointer (some q)] .returning w fun e u' w'=>e=.returned (.tuple #[])∧u'=.returning∧w'=w:=by
 refine callsD_of_wpS Tryz.func94 rfl fun c₀ cs hu=>?_
 apply wpS_seq
 apply wpS_region
 simp [wpOpsS,go_sem,recoverD,hu,Tryz.ntmps94,Exit.thenS,wa_nil]
 apply wpS_seq
 apply wpS_region
 simp [wpOpsS,go_sem,Exit.thenS,Array.replicate]
 refine wpS_cond (t:=false) (by simp [Act.eval,Array.replicate]) ?_
 simp only [Bool.false_eq_true,if_false]
 refine wpS_of_wp (wp_skip ?_)
 cases c₀
 simp_all [bodyPostS,results,Tryz.results94]
set_option maxHeartbeats 4000000 in
set_option maxRecDepth 100000 in
theorem tcatch_pan (p q:Nat) (u v:Value) (older:List PanicEntry) (w:World) (hp:w.cell? ⟨p,0,none⟩=some u) (zp:w.frozen? ⟨p,0,none⟩=false) (hq:w.cell? ⟨q,0,none⟩=some v) (zq:w.frozen? ⟨q,0,none⟩=false) (hpq:p≠q) (E:Int) :
  CallsD Tryz.prog 94 #[.pointer (some ⟨p,0,none⟩),.pointer (some ⟨q,0,none⟩)] (.panicking ({v:=.iface 79 (.int .i64 E),recovered:=false} :: older)) w fun e u' w' =>
   e=.returned (.tuple #[])∧u'=.panicking ({v:=.iface 79 (.int .i64 E),recovered:=true} :: older)∧w'=(w.setCell ⟨p,0,none⟩ (.int .i64 140)).setCell ⟨q,0,none⟩ (.int .i64 E):=by
 have kq:(w.setCell ⟨p,0,none⟩ (.int .i64 140)).cell? ⟨q,0,none⟩=some v:=(World.cell?_of_block (w:=w) (Below.heap_setCell _ _ _ _ (Ne.symm hpq))).trans hq
 have zk:(w.setCell ⟨p,0,none⟩ (.int .i64 140)).frozen? ⟨q,0,none⟩=false:=(World.frozen?_of_block (w:=w) (Below.heap_setCell _ _ _ _ (Ne.symm hpq))).trans zq
 refine callsD_of_wpS Tryz.func94 rfl fun c₀ cs hu=>?_
 apply wpS_seq
 apply wpS_region
 simp [wpOpsS,go_sem,recoverD,hu,Tryz.ntmps94,Exit.thenS,wa_err]
 apply wpS_seq
 apply wpS_region
 simp [wpOpsS,go_sem,Exit.thenS,Array.replicate]
 refine wpS_cond (t:=true) (by simp [Act.eval,Array.replicate]) ?_
 simp only [if_true]
 apply wpS_region
 simp [wpOpsS,go_sem,Exit.thenS,hp,zp,kq,zk,bodyPostS,results,Tryz.results94]
def endRt {n:Nat} (o:Sum Int (TT n×List Tk)):Sum Int (TT n):=match o with
 | .inl p=>.inl p
 | .inr x=>match x.2 with
  | t :: _=>if t.w=0 then .inr x.1 else .inl t.p
  | []=>.inl 0
def rdOt {n:Nat} (o:Sum Int (TT n)):Sum (Int×Int) (TT n):=match o with
 | .inl p=>.inl (140,p)
 | .inr e=>.inr e
def rdRt (f:Nat) (l:List UInt8):Sum (Int×Int) (TT f):=if (scR l).1=0 then rdOt (endRt (tyf f ((scR l).2.2++[⟨0,[],l.length⟩]))) else .inl ((scR l).1,(scR l).2.1)
def RdT (n:Nat) (w:World) (o:Sum (Int×Int) (TT n)) (e:Ending) (w':World):Prop:=Below w.heap.size w w'∧match o with
 | .inl y=>e=.returned (.tuple #[.agg (tcl tz tzs),.int .i64 y.1,.int .i64 y.2])
 | .inr x=>∃ q,e=.returned (.tuple #[.agg (tcl (thd n x) q),.int .i64 0,.int .i64 0])∧KQ n w' x q w.heap.size w'.heap.size
structure RC (k:Nat) (w:World) (E A:Int) (W:World):Prop where
 bel:Below k w W
 ex:W.heap[k]?=some (.cells (tcl tz tzs) 48 (0,0))
 e:W.heap[k + 1]?=some (.cells #[.int .i64 E] 34 (0,0))
 a:W.heap[k + 1 + 1]?=some (.cells #[.int .i64 A] 3 (0,0))
section
variable {k : Nat} {w W : World} {E A : Int}
theorem RC.dr (h:RC k w E A W):RC k w E A W.drew:=⟨h.bel.drew,h.ex,h.e,h.a⟩
theorem RC.pe (h:RC k w E A W):RC k w E A (W.setCell ⟨k + 1,0,none⟩ (.int .i64 E)):=⟨h.bel.setCell (by show k≤k + 1;omega) _,by rw [Below.heap_setCell _ _ _ _ (by show k≠k + 1;omega)];exact h.ex,blkS h.e _,by rw [Below.heap_setCell _ _ _ _ (by show k + 1 + 1≠k + 1;omega)];exact h.a⟩
theorem RC.pa (h:RC k w E A W):RC k w E A (W.setCell ⟨k + 1 + 1,0,none⟩ (.int .i64 A)):=⟨h.bel.setCell (by show k≤k + 1 + 1;omega) _,by rw [Below.heap_setCell _ _ _ _ (by show k≠k + 1 + 1;omega)];exact h.ex,by rw [Below.heap_setCell _ _ _ _ (by show k + 1≠k + 1 + 1;omega)];exact h.e,blkS h.a _⟩
theorem RC.pz (h:RC k w E A W):RC k w E A (((W.setCell ⟨k,0,none⟩ (.int .i64 0)).setCell ⟨k,1,none⟩ (.slice none 0 0)).setCell ⟨k,2,none⟩ (.slice none 0 0)):=by
 obtain ⟨h1,h2,h3,h4⟩:=h
 refine ⟨?_,?_,?_,?_⟩
 ·iterate 3 (refine Below.setCell ?_ (show k≤k from Nat.le_refl _) _)
  exact h1
 ·have q0:=blkT h2 0 (.int .i64 0)
  have q1:=blkT q0 1 (.slice none 0 0)
  have q2:=blkT q1 2 (.slice none 0 0)
  exact q2
 ·iterate 3 (rw [Below.heap_setCell _ _ _ _ (by show k + 1≠k;omega)])
  exact h3
 ·iterate 3 (rw [Below.heap_setCell _ _ _ _ (by show k + 1 + 1≠k;omega)])
  exact h4
theorem RC.low {W1:World} (h:RC k w E A W) (hb:Below (k + 3) W W1):RC k w E A W1:=⟨h.bel.trans (hb.mono (by omega)),(hb.block _ (by omega)).trans h.ex,(hb.block _ (by omega)).trans h.e,(hb.block _ (by omega)).trans h.a⟩
theorem RC.cells (h:RC k w E A W):W.cell? ⟨k,0,none⟩=some (.int .i64 0)∧W.cell? ⟨k,1,none⟩=some (.slice none 0 0)∧W.cell? ⟨k,2,none⟩=some (.slice none 0 0)∧W.cell? ⟨k + 1,0,none⟩=some (.int .i64 E)∧W.cell? ⟨k + 1 + 1,0,none⟩=some (.int .i64 A):=by
 have hx:Ty W k tz tzs:=⟨h.ex⟩
 obtain ⟨c0,c1,c2⟩:=hx.cells
 exact ⟨c0,c1,c2,by unfold World.cell?;rw [h.e];rfl,by unfold World.cell?;rw [h.a];rfl⟩
theorem RC.frz (h:RC k w E A W):(∀ j,W.frozen? ⟨k,j,none⟩=false)∧W.frozen? ⟨k + 1,0,none⟩=false∧W.frozen? ⟨k + 1 + 1,0,none⟩=false :=
 ⟨(show Ty W k tz tzs from ⟨h.ex⟩).frz,by unfold World.frozen?;rw [h.e];rfl,by unfold World.frozen?;rw [h.a];rfl⟩
end
set_option maxHeartbeats 4000000 in
set_option maxRecDepth 100000 in
theorem tout_wrong {k:Nat} {w W:World} {E A p:Int} {a0 a1 a2 a3 a7 a8 a9 a10 a11 a12 a13 a14 a15 a16 a17 a18 a19 a20 a21 a22 a23 a24 a25 a26 a27 a28 a29 a30 a31:Value} {R:Ending→World→Prop} (h:RC k w E A W) (hR:∀ X,RC k w 140 p X→R (.returned (.tuple #[.agg (tcl tz tzs),.int .i64 140,.int .i64 p])) X) :
  Leaves Tryz.prog Tryz.f50 #[a0,a1,a2,a3,.pointer (some ⟨k,0,none⟩),.pointer (some ⟨k + 1,0,none⟩),.pointer (some ⟨k + 1 + 1,0,none⟩),a7,a8,a9,a10,a11,a12,a13,a14,a15,a16,a17,a18,a19,a20,a21,a22,a23,a24,a25,a26,a27,a28,a29,a30,a31] R [{target:=.fn (.func 94) #[.pointer (some ⟨k + 1,0,none⟩),.pointer (some ⟨k + 1 + 1,0,none⟩)],args:=#[]}] (.panicking (pw p)) W:=by
 obtain ⟨_,c1,c2⟩:True∧W.cell? ⟨k + 1,0,none⟩=some (.int .i64 E)∧W.cell? ⟨k + 1 + 1,0,none⟩=some (.int .i64 A):=by
  obtain ⟨_,_,_,c1,c2⟩:=h.cells
  exact ⟨trivial,c1,c2⟩
 obtain ⟨_,f1,f2⟩:=h.frz
 unfold pw
 refine leaves_cons (f:=94) (args:=#[.pointer (some ⟨k + 1,0,none⟩),.pointer (some ⟨k + 1 + 1,0,none⟩)]) (by simp) (by simp [go_sem]) ?_
 refine (tcatch_pan (k + 1) (k + 1 + 1) _ _ [] _ c1 f1 c2 f2 (by omega) p).mono ?_
 rintro e u' w'' ⟨rfl,rfl,rfl⟩
 have RX:RC k w 140 p ((W.setCell ⟨k + 1,0,none⟩ (.int .i64 140)).setCell ⟨k + 1 + 1,0,none⟩ (.int .i64 p)):=by
  refine ⟨(h.bel.setCell (by show k≤k + 1;omega) _).setCell (by show k≤k + 1 + 1;omega) _,?_,?_,?_⟩
  ·rw [Below.heap_setCell _ _ _ _ (by show k≠k + 1 + 1;omega),Below.heap_setCell _ _ _ _ (by show k≠k + 1;omega)];exact h.ex
  ·rw [Below.heap_setCell _ _ _ _ (by show k + 1≠k + 1 + 1;omega),blkS h.e]
  ·rw [blkS (B:=k + 1 + 1) (v:=.int .i64 A) (T:=3) (by rw [Below.heap_setCell _ _ _ _ (by show k + 1 + 1≠k + 1;omega)];exact h.a)]
 have hr:=hR _ RX
 generalize World.setCell _ _ _=X at RX hr ⊢
 clear hR
 have q0:=RX.cells
 refine ⟨.tuple #[.agg (tcl tz tzs),.int .i64 140,.int .i64 p],?_,hr⟩
 simp [results,Tryz.results50,go_sem,q0,tcl,tvs,tz,tzs,tf]
theorem put3 {W:World} {k:Nat} {T:TypeId} {c0 c1 c2 d0 d1 d2:Value} (h0:W.heap[k]?=some (.cells #[c0,c1,c2] T (0,0))):(((W.setCell ⟨k,0,none⟩ d0).setCell ⟨k,1,none⟩ d1).setCell ⟨k,2,none⟩ d2).heap[k]?=some (.cells #[d0,d1,d2] T (0,0)):=by
 have q0:=blkT h0 0 d0
 have q1:=blkT q0 1 d1
 have q2:=blkT q1 2 d2
 simp only [List.setIfInBounds_toArray,List.set_cons_zero,List.set_cons_succ] at q2
 exact q2
theorem ty_put {W:World} {k:Nat} {h h':Th} {q q':S2} (k0:Ty W k h' q'):Ty (((W.setCell ⟨k,0,none⟩ (.int .i64 h.kind)).setCell ⟨k,1,none⟩ (q.ns)).setCell ⟨k,2,none⟩ (q.ls)) k h q:=by
 have h1:=k0.at_
 unfold tcl tvs at h1
 have h2:=put3 (d0:=.int .i64 h.kind) (d1:=q.ns) (d2:=q.ls) h1
 exact ⟨h2⟩
set_option maxHeartbeats 4000000 in
set_option maxRecDepth 100000 in
theorem tout_fine {k:Nat} {W:World} {a0 a1 a2 a3 a7 a8 a9 a10 a11 a12 a13 a14 a15 a16 a17 a18 a19 a20 a21 a22 a23 a24 a25 a26 a27 a28 a29 a30 a31:Value} {h:Th} {b1 b4:Option Addr} {b2 b3 b5 b6:Nat} {R:Ending→World→Prop} (hx:Ty W k h ⟨.slice b1 b2 b3,.slice b4 b5 b6⟩) (c1:W.cell? ⟨k + 1,0,none⟩=some (.int .i64 0)) (c2:W.cell? ⟨k + 1 + 1,0,none⟩=some (.int .i64 0)) (hR:R (.returned (.tuple #[.agg (tcl h ⟨.slice b1 b2 b3,.slice b4 b5 b6⟩),.int .i64 0,.int .i64 0])) W) :
  Leaves Tryz.prog Tryz.f50 #[a0,a1,a2,a3,.pointer (some ⟨k,0,none⟩),.pointer (some ⟨k + 1,0,none⟩),.pointer (some ⟨k + 1 + 1,0,none⟩),a7,a8,a9,a10,a11,a12,a13,a14,a15,a16,a17,a18,a19,a20,a21,a22,a23,a24,a25,a26,a27,a28,a29,a30,a31] R [{target:=.fn (.func 94) #[.pointer (some ⟨k + 1,0,none⟩),.pointer (some ⟨k + 1 + 1,0,none⟩)],args:=#[]}] .returning W:=by
 refine leaves_cons (f:=94) (args:=#[.pointer (some ⟨k + 1,0,none⟩),.pointer (some ⟨k + 1 + 1,0,none⟩)]) (by simp) (by simp [go_sem]) ?_
 refine (tcatch_idle _ _ _).mono ?_
 rintro e u' w'' ⟨rfl,rfl,rfl⟩
 have q0:=hx.cells
 refine ⟨.tuple #[.agg (tcl h ⟨.slice b1 b2 b3,.slice b4 b5 b6⟩),.int .i64 0,.int .i64 0],?_,hR⟩
 simp [results,Tryz.results50,go_sem,q0,c1,c2,tcl,tvs]
set_option maxHeartbeats 4000000 in
set_option maxRecDepth 100000 in
theorem tread_any (hP:ParseOk) (f:Nat) (hf:1025≤f) (s:ByteArray) (w:World) (g:Gg w) (gp:Gp w) (hz:s.size≤1000000):Calls Tryz.prog 50 #[.string s,.func (.func 51) #[] #[]] w fun e w'=>RdT f w (rdRt f (bl s)) e w':=by
 have hmf:∀ (fn:Fn) (first cap:Array Value) (w:World),(Instr.makeFunc fn first cap).run Tryz.prog w=.ok (.func fn first cap) w:=fun _ _ _ _=>rfl
 obtain ⟨W3,hW3⟩:∃ W3,W3=((w.alloc (.cells #[.int .i64 0,.slice none 0 0,.slice none 0 0] 48)).alloc (.cells #[.int .i64 0] 34)).alloc (.cells #[.int .i64 0] 3):=⟨_,rfl⟩
 have B3:Hid (Below w.heap.size w W3):=by rw [hW3];exact below_al (below_al (below_al (Below.refl _ _)))
 have hs:=hide (scan_any hP s W3 (g.below B3.out (by have:=g.sz;omega)) hz)
 have hM:=hide (typeOf_ok f)
 rw [hW3] at hs
 clear hP
 go_enter_defers Tryz.func50, Tryz.ntmps50
 go_wp2_with (go_at_call 57;refine Sto.out ?_)
 refine Sto.mk ?_
 refine (hs.out).mono ?_
 rw [←hW3]
 rintro e w1 ⟨v,rfl,hO,hb⟩
 have hsz3:W3.heap.size=w.heap.size + 3:=by rw [hW3];simp
 have Z3:Hid (Ty W3 w.heap.size tz tzs):=((tz_new w).below (below_al (below_al (Below.refl _ _)))) |> fun h=>by rw [hW3];exact h
 have Z1:=hide (Z3.out.below hb)
 have e3:W3.heap[w.heap.size + 1]?=some (.cells #[.int .i64 0] 34 (0,0)):=by
  rw [hW3,Below.heap_alloc _ _ _ (by simp)]
  have:=heap_alloc_last (w.alloc (.cells #[.int .i64 0,.slice none 0 0,.slice none 0 0] 48)) (.cells #[.int .i64 0] 34)
  rw [World.size_alloc] at this
  exact this
 have a3:W3.heap[w.heap.size + 1 + 1]?=some (.cells #[.int .i64 0] 3 (0,0)):=by
  rw [hW3]
  have:=heap_alloc_last ((w.alloc (.cells #[.int .i64 0,.slice none 0 0,.slice none 0 0] 48)).alloc (.cells #[.int .i64 0] 34)) (.cells #[.int .i64 0] 3)
  rw [World.size_alloc,World.size_alloc] at this
  exact this
 have e1:Hid (w1.heap[w.heap.size + 1]?=some (.cells #[.int .i64 0] 34 (0,0))):=(hb.block _ (by omega)).trans e3
 have a1:Hid (w1.heap[w.heap.size + 1 + 1]?=some (.cells #[.int .i64 0] 3 (0,0))):=(hb.block _ (by omega)).trans a3
 have ce:w1.cell? ⟨w.heap.size + 1,0,none⟩=some (.int .i64 0):=by unfold World.cell?;rw [e1.out];rfl
 have fe:w1.frozen? ⟨w.heap.size + 1,0,none⟩=false:=by unfold World.frozen?;rw [e1.out];rfl
 have ca:w1.cell? ⟨w.heap.size + 1 + 1,0,none⟩=some (.int .i64 0):=by unfold World.cell?;rw [a1.out];rfl
 have fa:w1.frozen? ⟨w.heap.size + 1 + 1,0,none⟩=false:=by unfold World.frozen?;rw [a1.out];rfl
 have B1:=hide (B3.out.trans (hb.mono (by omega)))
 have hsz1:w.heap.size + 3≤w1.heap.size:=by have:=hb.size;omega
 have hO1:=hide hO
 have hrd:Hid (∀ e w',RdT f w (if (scR (bl s)).1=0 then rdOt (endRt (tyf f ((scR (bl s)).2.2++[⟨0,[],(bl s).length⟩]))) else .inl ((scR (bl s)).1,(scR (bl s)).2.1)) e w'→RdT f w (rdRt f (bl s)) e w'):=fun e w' h=>h
 obtain ⟨a,c,hv⟩:=hO.shape
 have hlen:=scR_cnt (bl s)
 have hkk:=hide (scR_ok (bl s))
 obtain ⟨E,hE⟩:∃ E,(scR (bl s)).1=E:=⟨_,rfl⟩
 obtain ⟨A,hA⟩:∃ A,(scR (bl s)).2.1=A:=⟨_,rfl⟩
 obtain ⟨ts,hts⟩:∃ ts,(scR (bl s)).2.2=ts:=⟨_,rfl⟩
 rw [hE,hA,hts] at hrd
 rw [hE,hts] at hkk
 rw [hts] at hlen hO1 hv
 rw [hE,hA]
 subst hv
 have k0:=Z1.out.cells
 have z0:=Z1.out.frz
 unfold tz tzs tf at k0
 clear hb hO e3 a3 hs hE hA hts hW3 Z3 B3
 by_cases h0:E=0
 ·subst h0
  obtain ⟨hl1,hl2,hok⟩:=hkk.out rfl
  have HOK:=hide (hok ((bl s).length:Nat))
  rw [bl_length] at hl2 HOK
  have R2:∀ W2,W2=(w1.setCell ⟨w.heap.size + 1,0,none⟩ (.int .i64 (0:Nat))).setCell ⟨w.heap.size + 1 + 1,0,none⟩ (.int .i64 (A:Nat))→RC w.heap.size w (0:Nat) (A:Nat) W2∧OT W2 (w.heap.size + 3) (.slice a ts.length c) ts∧W2.heap.size=w1.heap.size:=by
   intro W2 hW2
   refine ⟨⟨?_,?_,?_,?_⟩,?_,by rw [hW2];simp⟩
   ·rw [hW2];exact (B1.out.setCell (by show w.heap.size≤w.heap.size + 1;omega) _).setCell (by show w.heap.size≤w.heap.size + 1 + 1;omega) _
   ·rw [hW2,Below.heap_setCell _ _ _ _ (by show w.heap.size≠w.heap.size + 1 + 1;omega),Below.heap_setCell _ _ _ _ (by show w.heap.size≠w.heap.size + 1;omega)];exact Z1.out.at_
   ·rw [hW2,Below.heap_setCell _ _ _ _ (by show w.heap.size + 1≠w.heap.size + 1 + 1;omega),blkS e1.out]
   ·rw [hW2,blkS (B:=w.heap.size + 1 + 1) (v:=.int .i64 0) (T:=3) (by rw [Below.heap_setCell _ _ _ _ (by show w.heap.size + 1 + 1≠w.heap.size + 1;omega)];exact a1.out)]
   ·have hO:=hO1.out
    rw [hsz3] at hO
    refine ownsRow_of hO fun k hk hb=>?_
    have:=(World.ownsRow.lt hO k hk).1
    rw [hW2,Below.heap_setCell _ _ _ _ (by show k≠w.heap.size + 1 + 1;omega),Below.heap_setCell _ _ _ _ (by show k≠w.heap.size + 1;omega)]
  have R2H:=hide R2
  clear R2 Z1 e1 a1 B1 hO1
  go_wp2_with (go_at_call 59;refine Sto.out ?_)
  refine Sto.mk ?_
  have R3:=R2H.out _ rfl
  rw [Int.ofNat_zero] at R3
  generalize hW2:World.setCell _ _ _=W2 at R3 ⊢
  obtain ⟨RB2,OT2,hsz2⟩:=R3
  refine (over_any OT2 (by omega) s.size (by omega) (by omega)).mono ?_
  rintro e w3 ⟨rfl,hb3,hT3⟩
  have RB3:=RB2.low hb3
  obtain ⟨B,hB⟩:∃ B,W2.heap.size=B:=⟨_,rfl⟩
  have hB3:=hide hb3.size
  rw [hB] at hT3 hB3 ⊢
  have hBB:=hide (show w.heap.size + 3≤B by omega)
  have T3:=hide (hT3 (.cells #[.func (.func 114) #[] #[.pointer (some ⟨B,0,none⟩)],.func (.func 115) #[] #[.pointer (some ⟨B,0,none⟩)]] 83))
  have RB4:=hide (RB3.low (W1:=w3.alloc (.cells #[.func (.func 114) #[] #[.pointer (some ⟨B,0,none⟩)],.func (.func 115) #[] #[.pointer (some ⟨B,0,none⟩)]] 83)) ((below_al (Below.refl w3.heap.size w3)).mono (by have:=hB3.out;have:=hBB.out;omega)))
  have gp4:=hide (gp.below RB4.out.bel)
  have hlo:=hide (show 15≤B by have:=g.sz;have:=hBB.out;omega)
  have LB4:=hide (lb_new w3 B)
  have hm4:=hide (hM.out _ B _ ⟨T3.out,HOK.out,gp4.out,hlo.out⟩ (by simp;omega))
  have hrd3:Hid (∀ e w',RdT f w (rdOt (endRt (tyf f (ts++[⟨0,[],(s.size:Nat)⟩])))) e w'→RdT f w (rdRt f (bl s)) e w'):=fun e w' h=>hrd.out e w' (by simp only [if_true,bl_length];exact h)
  clear hrd
  generalize hR:tyf f _=R at hm4 hrd3
  clear hW2 RB2 RB3 OT2 hb3 hT3 R2H ce fe ca fa k0 z0 hsz2
  have hsf:∀ (a:Addr) (w:World) (fn:Fn) (first cap:Array Value),(store a (.func fn first cap)).run Tryz.prog w=stored Tryz.prog w a (.func fn first cap) .plain:=fun a w fn f c=>run_store Tryz.prog w a _ .plain rfl
  unfold lv at hm4 ⊢
  go_wp2_with (go_at_call 51;refine Sto.out ?_)
  refine Sto.mk ?_
  refine hm4.out.mono ?_
  rcases R with p|x
  ·rintro e w5 ⟨hb5,rfl⟩
   refine tout_wrong (RB4.out.low (hb5.low (by have:=hB3.out;simp;omega) |> fun h=>h.mono hBB.out)) fun X hX=>?_
   exact hrd3.out _ _ ⟨hX.bel,rfl⟩
  rintro e w5 ⟨hb5,q,rfl,hk5,hq5⟩
  obtain ⟨x,l2⟩:=x
  have ok2:Hid (Okl l2):=hide ((tyf_nx f) _ _ HOK.out hR).1
  have RB5:=hide (RB4.out.low (hb5.low (by have:=hB3.out;simp;omega) |> fun h=>h.mono hBB.out))
  have LB5:=hide (LB4.out.fb hb5 (by have:=T3.out.sz;rw [World.size_alloc] at this;omega))
  have K5:=hide hk5
  obtain ⟨b1,b2,b3,b4,b5,b6,hqs⟩:=hk5.rd.shape
  subst hqs
  have Q5:=hide hq5
  have S5:=hide hb5.size
  have kL0:∀ o,(w5.alloc o).cell? ⟨w3.heap.size,0,none⟩=some (.func (.func 114) #[] #[.pointer (some ⟨B,0,none⟩)]):=fun o=>(LB5.out.below (below_al (Below.refl _ _))).cells.1
  have kL1:∀ o,(w5.alloc o).cell? ⟨w3.heap.size,1,none⟩=some (.func (.func 115) #[] #[.pointer (some ⟨B,0,none⟩)]):=fun o=>(LB5.out.below (below_al (Below.refl _ _))).cells.2
  have T6:=hide (show B<w3.heap.size by have:=T3.out.sz;rw [World.size_alloc] at this;omega)
  clear hb5 hq5 hk5 hm4 T3 RB4 gp4 LB4
  obtain ⟨t,l3,rfl⟩:=ok2.out.cons
  have hend:Hid (∀ w',Below w5.heap.size w5 w'→Calls Tryz.prog 60 #[lv B] w' fun e w''=>WP B w' (endT t l3) e w''):=hide fun w' hb=>end_any (Q5.out.below hb)
  unfold lv at hend
  unfold tcl tvs
  dsimp only
  go_wp2_with (go_at_call 60;refine Sto.out ?_)
  refine Sto.mk ?_
  refine (hend.out _ (below_al (Below.refl _ _))).mono ?_
  rintro e w6 ⟨hb6,he⟩
  have hz5:=S5.out
  simp only [World.size_alloc] at hz5
  have RB6:=hide ((RB5.out.low ((below_al (Below.refl w5.heap.size w5)).mono (by have:=hB3.out;have:=hBB.out;omega))).low (hb6.low (by simp;have:=hB3.out;omega) |> fun h=>h.mono hBB.out))
  have X6:=hide ((ty_new w5 (thd f x) ⟨.slice b1 b2 b3,.slice b4 b5 b6⟩).fb hb6 (by have:=hB3.out;omega))
  have K6:=hide ((K5.out.al (o:=.cells (tcl (thd f x) ⟨.slice b1 b2 b3,.slice b4 b5 b6⟩) 48)).fb hb6 (by simp;have:=T6.out;omega))
  by_cases htw:t.w=0
  ·have e1:endT t l3=.inr (t :: l3):=by simp [endT,htw]
   rw [e1] at he
   obtain ⟨rfl,_⟩:=he
   have x0:=X6.out.cells
   have k0:=RB6.out.cells
   obtain ⟨z0,z1,z2⟩:=RB6.out.frz
   clear hend ok2 hR e1
   go_wp2_with fail
   have ex1:=ty_put (h:=thd f x) (q:=⟨.slice b1 b2 b3,.slice b4 b5 b6⟩) (⟨RB6.out.ex⟩:Ty w6 w.heap.size tz tzs)
   simp only [] at ex1
   have e6:=RB6.out.e
   have a6:=RB6.out.a
   have hK:∀ X,Below w.heap.size w X→KQ f X x ⟨.slice b1 b2 b3,.slice b4 b5 b6⟩ w.heap.size X.heap.size→RdT f w (rdRt f (bl s)) (.returned (.tuple #[.agg (tcl (thd f x) ⟨.slice b1 b2 b3,.slice b4 b5 b6⟩),.int .i64 0,.int .i64 0])) X:=fun X h1 h2=>hrd3.out _ _ (by simp only [endRt,htw,if_true,rdOt];exact ⟨h1,_,rfl,h2⟩)
   clear x0 k0 z0 z1 z2 hrd3
   generalize hY:World.setCell (World.setCell (World.setCell w6 _ _) _ _) _ _=Y at ex1 ⊢
   have bY:Below w.heap.size w6 Y:=by
    rw [←hY]
    iterate 3 (refine Below.setCell ?_ (show w.heap.size≤w.heap.size from Nat.le_refl _) _)
    exact Below.refl _ _
   have kY:∀ j,j≠w.heap.size→Y.heap[j]?=w6.heap[j]?:=fun j hj=>by
    rw [←hY]
    iterate 3 (rw [Below.heap_setCell _ _ _ _ (by show j≠w.heap.size;exact hj)])
   have sY:Y.heap.size=w6.heap.size:=by rw [←hY];simp
   clear hY
   refine tout_fine (h:=thd f x) ?_ ?_ ?_ (hK _ ?_ ?_)
   ·refine ⟨?_⟩
    rw [Below.heap_setCell _ _ _ _ (by show w.heap.size≠w.heap.size + 1 + 1;omega),Below.heap_setCell _ _ _ _ (by show w.heap.size≠w.heap.size + 1;omega)]
    exact ex1.at_
   ·refine (World.cell?_of_block (w:=Y.setCell ⟨w.heap.size + 1,0,none⟩ (.int .i64 0)) (Below.heap_setCell _ _ _ _ (by show w.heap.size + 1≠w.heap.size + 1 + 1;omega))).trans ?_
    unfold World.cell?
    rw [blkS ((kY _ (by omega)).trans e6)]
    rfl
   ·unfold World.cell?
    rw [blkS (B:=w.heap.size + 1 + 1) (v:=.int .i64 A) (T:=3) (by rw [Below.heap_setCell _ _ _ _ (by show w.heap.size + 1 + 1≠w.heap.size + 1;omega)];exact (kY _ (by omega)).trans a6)]
    rfl
   ·exact ((RB6.out.bel.trans bY).setCell (by show w.heap.size≤w.heap.size + 1;omega) _).setCell (by show w.heap.size≤w.heap.size + 1 + 1;omega) _
   ·have hs3:=hB3.out
    have hb1:=hBB.out
    have ht6:=T6.out
    have hw6:w5.heap.size + 1≤w6.heap.size:=by have:=hb6.size;simpa using this
    refine KQ.fin (s:=w3.heap.size + 1) ((((K6.out.move (W1:=Y) (by omega) fun k h1 h2=>kY k (by simp only [World.size_alloc] at h1;omega)).set ?_).set ?_) |> fun h=>by simpa using h) (by omega)
    ·simp;omega
    ·simp;omega
  ·have e1:endT t l3=.inl t.p:=by simp [endT,htw]
   rw [e1] at he
   obtain rfl:=he
   refine tout_wrong RB6.out fun X hX=>?_
   refine hrd3.out _ _ ?_
   simp only [endRt,htw,if_false,rdOt]
   exact ⟨hX.bel,rfl⟩
 ·have b0:((E:Int)==0)=false:=by simp;omega
  go_wp2_with fail
  obtain ⟨W2,hW2⟩:∃ W2,(w1.setCell ⟨w.heap.size + 1,0,none⟩ (.int .i64 (E:Nat))).setCell ⟨w.heap.size + 1 + 1,0,none⟩ (.int .i64 (A:Nat))=W2:=⟨_,rfl⟩
  have B2:Hid (Below w.heap.size w W2):=by rw [←hW2];exact (B1.out.setCell (by show w.heap.size≤w.heap.size + 1;omega) _).setCell (by show w.heap.size≤w.heap.size + 1 + 1;omega) _
  have Z2:Ty W2 w.heap.size tz tzs:=⟨by rw [←hW2,Below.heap_setCell _ _ _ _ (by show w.heap.size≠w.heap.size + 1 + 1;omega),Below.heap_setCell _ _ _ _ (by show w.heap.size≠w.heap.size + 1;omega)];exact Z1.out.at_⟩
  have e2:W2.heap[w.heap.size + 1]?=some (.cells #[.int .i64 (E:Nat)] 34 (0,0)):=by
   rw [←hW2,Below.heap_setCell _ _ _ _ (by show w.heap.size + 1≠w.heap.size + 1 + 1;omega),blkS e1.out]
  have a2:W2.heap[w.heap.size + 1 + 1]?=some (.cells #[.int .i64 (A:Nat)] 3 (0,0)):=by
   rw [←hW2,blkS (B:=w.heap.size + 1 + 1) (v:=.int .i64 0) (T:=3) (by rw [Below.heap_setCell _ _ _ _ (by show w.heap.size + 1 + 1≠w.heap.size + 1;omega)];exact a1.out)]
  clear k0 z0 ce fe ca fa
  have R2:Hid (RC w.heap.size w (E:Nat) (A:Nat) W2):=⟨B2.out,Z2.at_,e2,a2⟩
  clear B2 Z2 e2 a2
  rw [hW2]
  clear hW2
  have k0:=R2.out.cells
  obtain ⟨z0,z1,z2⟩:=R2.out.frz
  go_region_held3 (fun W=>W.cell? ⟨w.heap.size,0,none⟩=some (.int .i64 0)∧W.cell? ⟨w.heap.size,1,none⟩=some (.slice none 0 0)∧W.cell? ⟨w.heap.size,2,none⟩=some (.slice none 0 0)∧W.cell? ⟨w.heap.size + 1,0,none⟩=some (.int .i64 (E:Nat))∧W.cell? ⟨w.heap.size + 1 + 1,0,none⟩=some (.int .i64 (A:Nat))) (first|(refine RC.cells (w:=w) ?_;(repeat (first|with_reducible (exact R2.out)|with_reducible (refine RC.dr ?_)|with_reducible (refine RC.pa ?_)|with_reducible (refine RC.pe ?_)|with_reducible (refine RC.pz ?_))))) (first|fail)
  have KX:∀ X,RC w.heap.size w (E:Nat) (A:Nat) X→RdT f w (rdRt f (bl s)) (.returned (.tuple #[.agg (tcl tz tzs),.int .i64 (E:Nat),.int .i64 (A:Nat)])) X:=fun X hX=>hrd.out _ _ (by rw [if_neg h0];exact ⟨hX.bel,rfl⟩)
  go_wp2_with fail
  generalize hX:World.drew _=X
  have RX:RC w.heap.size w (E:Nat) (A:Nat) X:=by
   rw [←hX]
   repeat (first|with_reducible (exact R2.out)|with_reducible (refine RC.dr ?_)|with_reducible (refine RC.pa ?_)|with_reducible (refine RC.pe ?_)|with_reducible (refine RC.pz ?_))
  refine ⟨.tuple #[.agg (tcl tz tzs),.int .i64 (E:Nat),.int .i64 (A:Nat)],?_,KX X RX⟩
  clear hX k0 z0 z1 z2 R2 KX
  have q0:=RX.cells
  simp [results,Tryz.results50,go_sem,q0,tcl,tvs,tz,tzs,tf]
end Lx
end Go.Proofs.YtcnfchblfcfimaaGreatDoor
namespace Go.Proofs.YtcnfchblfcfimaaGreatDoor
namespace Lx
open Go.RowKit
structure LR (k:Nat) (w:World) (h:Eh) (q:Sl) (W:World):Prop where
 bel:Below k w W
 ex:W.heap[k]?=some (.cells (ecl h q) 33 (0,0))
 rs:W.heap[k + 1]?=some (.cells (nc9 0).toArray 31 (0,0))
 nl:W.heap[k + 1 + 1]?=some (.cells (nc9 1).toArray 31 (0,0))
structure LS (k:Nat) (h:Eh) (q:Sl) (W:World):Prop where
 ex:W.heap[k]?=some (.cells (ecl h q) 33 (0,0))
 nl:W.heap[k + 1 + 1]?=some (.cells (nc9 1).toArray 31 (0,0))
section
variable {k : Nat} {w W : World} {h : Eh} {q : Sl}
theorem LR.dr (H:LR k w h q W):LR k w h q W.drew:=⟨H.bel.drew,H.ex,H.rs,H.nl⟩
theorem LR.low {W1:World} (H:LR k w h q W) (hb:Below (k + 3) W W1):LR k w h q W1:=⟨H.bel.trans (hb.mono (by omega)),(hb.block _ (by omega)).trans H.ex,(hb.block _ (by omega)).trans H.rs,(hb.block _ (by omega)).trans H.nl⟩
theorem LR.al {o:Obj} (H:LR k w h q W):LR k w h q (W.alloc o):=by
 have hz:k + 1 + 1<W.heap.size:=(Array.getElem?_eq_some_iff.1 H.nl).1
 exact H.low ((below_al (Below.refl W.heap.size W)).mono (by omega))
theorem LR.ls (H:LR k w h q W):LS k h q W:=⟨H.ex,H.nl⟩
theorem LS.dr (H:LS k h q W):LS k h q W.drew:=⟨H.ex,H.nl⟩
theorem LS.al {o:Obj} (H:LS k h q W):LS k h q (W.alloc o):=⟨(Below.heap_alloc _ _ _ (Array.getElem?_eq_some_iff.1 H.ex).1).trans H.ex,(Below.heap_alloc _ _ _ (Array.getElem?_eq_some_iff.1 H.nl).1).trans H.nl⟩
theorem LS.set {j:Nat} {u:Value} (H:LS k h q W):LS k h q (W.setCell ⟨k + 1,j,none⟩ u):=⟨(Below.heap_setCell _ _ _ _ (by show k≠k + 1;omega)).trans H.ex,(Below.heap_setCell _ _ _ _ (by show k + 1 + 1≠k + 1;omega)).trans H.nl⟩
theorem LS.cells (H:LS k h q W):W.cell? ⟨k,2,none⟩=some q.ns∧W.cell? ⟨k,3,none⟩=some q.ls∧W.cell? ⟨k + 1 + 1,0,none⟩=some (.int .i64 1)∧W.cell? ⟨k + 1 + 1,1,none⟩=some (.bool false)∧W.cell? ⟨k + 1 + 1,2,none⟩=some (.bool false)∧W.cell? ⟨k + 1 + 1,3,none⟩=some (.string ⟨#[]⟩)∧W.cell? ⟨k + 1 + 1,4,none⟩=some (.int .i64 0)∧W.cell? ⟨k + 1 + 1,5,none⟩=some (.int .u64 0)∧W.cell? ⟨k + 1 + 1,6,none⟩=some (.string ⟨#[]⟩)∧W.cell? ⟨k + 1 + 1,7,none⟩=some (.slice none 0 0)∧W.cell? ⟨k + 1 + 1,8,none⟩=some (.slice none 0 0):=by
 obtain ⟨_,_,c2,c3,_⟩:=(show Ex W k h q from ⟨H.ex⟩).cells
 refine ⟨c2,c3,?_,?_,?_,?_,?_,?_,?_,?_,?_⟩
 iterate 9 (unfold World.cell?;rw [H.nl];rfl)
theorem LR.res (H:LR k w h q W):W.cell? ⟨k + 1,0,none⟩=some (.int .i64 0)∧W.cell? ⟨k + 1,1,none⟩=some (.bool false)∧W.cell? ⟨k + 1,2,none⟩=some (.bool false)∧W.cell? ⟨k + 1,3,none⟩=some (.string ⟨#[]⟩)∧W.cell? ⟨k + 1,4,none⟩=some (.int .i64 0)∧W.cell? ⟨k + 1,5,none⟩=some (.int .u64 0)∧W.cell? ⟨k + 1,6,none⟩=some (.string ⟨#[]⟩)∧W.cell? ⟨k + 1,7,none⟩=some (.slice none 0 0)∧W.cell? ⟨k + 1,8,none⟩=some (.slice none 0 0):=by
 refine ⟨?_,?_,?_,?_,?_,?_,?_,?_,?_⟩
 iterate 9 (unfold World.cell?;rw [H.rs];rfl)
theorem LR.frz (H:LR k w h q W):∀ j,W.frozen? ⟨k + 1,j,none⟩=false:=fun j=>by
 have:=H.rs
 simp [World.frozen?,this]
end
theorem last_at2 {W:World} {o:Obj} {i:Nat} (h:i=W.heap.size):(W.alloc o).heap[i]?=some o:=by subst h;exact heap_alloc_last _ _
theorem low_at2 {W:World} {o:Obj} {i:Nat} {c:Option Obj} (hi:i<W.heap.size) (h:W.heap[i]?=c):(W.alloc o).heap[i]?=c:=(Below.heap_alloc _ _ _ hi).trans h
theorem lr_new (w:World) (h:Eh) (q:Sl):LR w.heap.size w h q (((w.alloc (.cells (ecl h q) 33)).alloc (.cells (nc9 0).toArray 31)).alloc (.cells (nc9 1).toArray 31)) :=
 ⟨below_al (below_al (below_al (Below.refl _ _))),low_at2 (by simp;omega) (low_at2 (by simp) (last_at2 rfl)),low_at2 (by simp) (last_at2 (by simp)),last_at2 (by simp)⟩
theorem put9 {W:World} {k:Nat} {T:TypeId} {c0 c1 c2 c3 c4 c5 c6 c7 c8 d0 d1 d2 d3 d4 d5 d6 d7 d8:Value} (h0:W.heap[k]?=some (.cells #[c0,c1,c2,c3,c4,c5,c6,c7,c8] T (0,0))):(((((((((W.setCell ⟨k,0,none⟩ d0).setCell ⟨k,1,none⟩ d1).setCell ⟨k,2,none⟩ d2).setCell ⟨k,3,none⟩ d3).setCell ⟨k,4,none⟩ d4).setCell ⟨k,5,none⟩ d5).setCell ⟨k,6,none⟩ d6).setCell ⟨k,7,none⟩ d7).setCell ⟨k,8,none⟩ d8).heap[k]?=some (.cells #[d0,d1,d2,d3,d4,d5,d6,d7,d8] T (0,0)):=by
 have q0:=blkT h0 0 d0
 have q1:=blkT q0 1 d1
 have q2:=blkT q1 2 d2
 have q3:=blkT q2 3 d3
 have q4:=blkT q3 4 d4
 have q5:=blkT q4 5 d5
 have q6:=blkT q5 6 d6
 have q7:=blkT q6 7 d7
 have q8:=blkT q7 8 d8
 simp only [List.setIfInBounds_toArray,List.set_cons_zero,List.set_cons_succ] at q8
 exact q8
theorem nul_at {W:World} {i:Nat} (h:W.heap[i]?=some (.cells (nc9 1).toArray 31 (0,0))):∀ j v,(nc9 1)[j]?=some v→W.cell? ⟨i,0 + j,none⟩=some v:=by
 intro j v hj
 unfold World.cell?
 rw [h]
 simpa using hj
set_option maxHeartbeats 4000000 in
set_option maxRecDepth 100000 in
theorem like_rec (k:Int) (hk:k=3∨k=6) (n:Nat) (nm:ByteArray) (nms:List ByteArray) (vn:Nat) (val:VT vn) (l:List (ET n)) (q:Sl) (w:World) (hl:l.length≤100000) (hr:RE (n + 1) w (⟨k,nm,nms,vn,val⟩,l) q) :
  Calls Tryz.prog 85 #[.agg (ecl ⟨k,nm,nms,vn,val⟩ q)] w fun e w'=>∃ g,e=.returned (.agg (lk9 8 ⟨#[]⟩ q.ns (.slice (some ⟨g,0,none⟩) l.length l.length)))∧w'.heap[g]?=some (.cells (rpt l.length (nc9 1)).toArray 31 (0,0))∧w.heap.size≤g∧Below w.heap.size w w':=by
 obtain ⟨al,cl,hle,hc1,hc2⟩:=hr.tl.len
 obtain ⟨x1,y1,z1,x2,y2,z2,x3,y3,z3,x4,y4,z4,hqs⟩:=hr.shape
 subst hqs
 obtain ⟨rfl,rfl,rfl⟩:=Value.slice.inj hle
 clear hle hr hc1 hc2
 simp only
 obtain ⟨N,hN⟩:∃ N,l.length=N:=⟨_,rfl⟩
 rw [hN] at hl ⊢
 clear hN
 have hrep:=hide (fun (W:World) (h:∀ j v,(nc9 1)[j]?=some v→W.cell? ⟨w.heap.size + 1 + 1 + 1,0 + j,none⟩=some v) (hb:w.heap.size + 1 + 1 + 1<W.heap.size)=>repeat_any (c:=1) N hl h hb)
 have L0:=hide (lr_new w ⟨k,nm,nms,vn,val⟩ ⟨.slice x1 y1 z1,.slice x2 N z2,.slice x3 y3 z3,.slice x4 y4 z4⟩)
 unfold ecl at L0 ⊢
 unfold nc9 at L0
 simp only [] at L0 ⊢
 rcases hk with rfl|rfl
 ·go_enter Tryz.func85, Tryz.ntmps85
  go_wp2_with fail
  have c0:=L0.out.ls.cells
  simp only [] at c0
  go_region_held3 (fun W=>W.cell? ⟨w.heap.size,2,none⟩=some (.slice x1 y1 z1)∧W.cell? ⟨w.heap.size,3,none⟩=some (.slice x2 N z2)∧W.cell? ⟨w.heap.size + 1 + 1,0,none⟩=some (.int .i64 1)∧W.cell? ⟨w.heap.size + 1 + 1,1,none⟩=some (.bool false)∧W.cell? ⟨w.heap.size + 1 + 1,2,none⟩=some (.bool false)∧W.cell? ⟨w.heap.size + 1 + 1,3,none⟩=some (.string ⟨#[]⟩)∧W.cell? ⟨w.heap.size + 1 + 1,4,none⟩=some (.int .i64 0)∧W.cell? ⟨w.heap.size + 1 + 1,5,none⟩=some (.int .u64 0)∧W.cell? ⟨w.heap.size + 1 + 1,6,none⟩=some (.string ⟨#[]⟩)∧W.cell? ⟨w.heap.size + 1 + 1,7,none⟩=some (.slice none 0 0)∧W.cell? ⟨w.heap.size + 1 + 1,8,none⟩=some (.slice none 0 0)) (first|(refine LS.cells (h:=⟨3,nm,nms,vn,val⟩) (q:=⟨.slice x1 y1 z1,.slice x2 N z2,.slice x3 y3 z3,.slice x4 y4 z4⟩) ?_;(repeat (first|with_reducible (exact L0.out.ls)|with_reducible (exact L3.out.ls)|with_reducible (refine LS.dr ?_)|with_reducible (refine LS.al ?_)|with_reducible (refine LS.set ?_))))) (first|(go_at_call 139;refine (hrep.out _ (nul_at (show (World.drew _).heap[_]?=_ from last_at2 (by simp))) (by simp)).mono ?_;rintro e w3 ⟨rfl,h1,h2⟩;have L3:=hide (L0.out.al.dr.low (h2.mono (by simp)));have f3:=L3.out.frz;have r3:=L3.out.res;have H1:=hide h1;have H2:=hide h2;clear h1 h2))
  clear c0
  go_wp2_with fail
  have p3:=put9 (d0:=.int .i64 8) (d1:=.bool false) (d2:=.bool false) (d3:=.string ⟨#[]⟩) (d4:=.int .i64 0) (d5:=.int .u64 0) (d6:=.string ⟨#[]⟩) (d7:=.slice x1 y1 z1) (d8:=.slice (some ⟨w.heap.size + 1 + 1 + 1 + 1,0,none⟩) N N) L3.out.rs
  have hz3:w.heap.size + 1 + 1 + 1 + 1≤w3.heap.size:=by have:=H2.out.size;simpa using this
  generalize hY:World.setCell (World.setCell (World.setCell (World.setCell (World.setCell (World.setCell (World.setCell (World.setCell (World.setCell w3 _ _) _ _) _ _) _ _) _ _) _ _) _ _) _ _) _ _=Y at p3 ⊢
  have bY:Below w.heap.size w Y:=by
   rw [←hY]
   iterate 9 (refine Below.setCell ?_ (by show w.heap.size≤w.heap.size + 1;omega) _)
   exact L3.out.bel
  have gY:Y.heap[w.heap.size + 1 + 1 + 1 + 1]?=some (.cells (rpt N (nc9 1)).toArray 31 (0,0)):=by
   rw [←hY]
   iterate 9 (rw [Below.heap_setCell _ _ _ _ (by show w.heap.size + 1 + 1 + 1 + 1≠w.heap.size + 1;omega)])
   have:=H1.out
   simpa using this
  clear hY r3 f3 H1 H2 L3
  have y0:Y.cell? ⟨w.heap.size + 1,0,none⟩=some (.int .i64 8)∧Y.cell? ⟨w.heap.size + 1,1,none⟩=some (.bool false)∧Y.cell? ⟨w.heap.size + 1,2,none⟩=some (.bool false)∧Y.cell? ⟨w.heap.size + 1,3,none⟩=some (.string ⟨#[]⟩)∧Y.cell? ⟨w.heap.size + 1,4,none⟩=some (.int .i64 0)∧Y.cell? ⟨w.heap.size + 1,5,none⟩=some (.int .u64 0)∧Y.cell? ⟨w.heap.size + 1,6,none⟩=some (.string ⟨#[]⟩)∧Y.cell? ⟨w.heap.size + 1,7,none⟩=some (.slice x1 y1 z1)∧Y.cell? ⟨w.heap.size + 1,8,none⟩=some (.slice (some ⟨w.heap.size + 1 + 1 + 1 + 1,0,none⟩) N N):=by
   refine ⟨?_,?_,?_,?_,?_,?_,?_,?_,?_⟩
   iterate 9 (unfold World.cell?;rw [p3];rfl)
  refine bodyPost_ret (v:=.agg (lk9 8 ⟨#[]⟩ (.slice x1 y1 z1) (.slice (some ⟨w.heap.size + 1 + 1 + 1 + 1,0,none⟩) N N))) (by simp [results,Tryz.results85,go_sem,lk9,y0]) rfl ⟨_,rfl,gY,by omega,bY⟩
 ·go_enter Tryz.func85, Tryz.ntmps85
  go_wp2_with fail
  have c0:=L0.out.ls.cells
  simp only [] at c0
  go_region_held3 (fun W=>W.cell? ⟨w.heap.size,2,none⟩=some (.slice x1 y1 z1)∧W.cell? ⟨w.heap.size,3,none⟩=some (.slice x2 N z2)∧W.cell? ⟨w.heap.size + 1 + 1,0,none⟩=some (.int .i64 1)∧W.cell? ⟨w.heap.size + 1 + 1,1,none⟩=some (.bool false)∧W.cell? ⟨w.heap.size + 1 + 1,2,none⟩=some (.bool false)∧W.cell? ⟨w.heap.size + 1 + 1,3,none⟩=some (.string ⟨#[]⟩)∧W.cell? ⟨w.heap.size + 1 + 1,4,none⟩=some (.int .i64 0)∧W.cell? ⟨w.heap.size + 1 + 1,5,none⟩=some (.int .u64 0)∧W.cell? ⟨w.heap.size + 1 + 1,6,none⟩=some (.string ⟨#[]⟩)∧W.cell? ⟨w.heap.size + 1 + 1,7,none⟩=some (.slice none 0 0)∧W.cell? ⟨w.heap.size + 1 + 1,8,none⟩=some (.slice none 0 0)) (first|(refine LS.cells (h:=⟨6,nm,nms,vn,val⟩) (q:=⟨.slice x1 y1 z1,.slice x2 N z2,.slice x3 y3 z3,.slice x4 y4 z4⟩) ?_;(repeat (first|with_reducible (exact L0.out.ls)|with_reducible (exact L3.out.ls)|with_reducible (refine LS.dr ?_)|with_reducible (refine LS.al ?_)|with_reducible (refine LS.set ?_))))) (first|(go_at_call 139;refine (hrep.out _ (nul_at (show (World.drew _).heap[_]?=_ from last_at2 (by simp))) (by simp)).mono ?_;rintro e w3 ⟨rfl,h1,h2⟩;have L3:=hide (L0.out.al.dr.low (h2.mono (by simp)));have f3:=L3.out.frz;have r3:=L3.out.res;have H1:=hide h1;have H2:=hide h2;clear h1 h2))
  clear c0
  go_wp2_with fail
  have p3:=put9 (d0:=.int .i64 8) (d1:=.bool false) (d2:=.bool false) (d3:=.string ⟨#[]⟩) (d4:=.int .i64 0) (d5:=.int .u64 0) (d6:=.string ⟨#[]⟩) (d7:=.slice x1 y1 z1) (d8:=.slice (some ⟨w.heap.size + 1 + 1 + 1 + 1,0,none⟩) N N) L3.out.rs
  have hz3:w.heap.size + 1 + 1 + 1 + 1≤w3.heap.size:=by have:=H2.out.size;simpa using this
  generalize hY:World.setCell (World.setCell (World.setCell (World.setCell (World.setCell (World.setCell (World.setCell (World.setCell (World.setCell w3 _ _) _ _) _ _) _ _) _ _) _ _) _ _) _ _) _ _=Y at p3 ⊢
  have bY:Below w.heap.size w Y:=by
   rw [←hY]
   iterate 9 (refine Below.setCell ?_ (by show w.heap.size≤w.heap.size + 1;omega) _)
   exact L3.out.bel
  have gY:Y.heap[w.heap.size + 1 + 1 + 1 + 1]?=some (.cells (rpt N (nc9 1)).toArray 31 (0,0)):=by
   rw [←hY]
   iterate 9 (rw [Below.heap_setCell _ _ _ _ (by show w.heap.size + 1 + 1 + 1 + 1≠w.heap.size + 1;omega)])
   have:=H1.out
   simpa using this
  clear hY r3 f3 H1 H2 L3
  have y0:Y.cell? ⟨w.heap.size + 1,0,none⟩=some (.int .i64 8)∧Y.cell? ⟨w.heap.size + 1,1,none⟩=some (.bool false)∧Y.cell? ⟨w.heap.size + 1,2,none⟩=some (.bool false)∧Y.cell? ⟨w.heap.size + 1,3,none⟩=some (.string ⟨#[]⟩)∧Y.cell? ⟨w.heap.size + 1,4,none⟩=some (.int .i64 0)∧Y.cell? ⟨w.heap.size + 1,5,none⟩=some (.int .u64 0)∧Y.cell? ⟨w.heap.size + 1,6,none⟩=some (.string ⟨#[]⟩)∧Y.cell? ⟨w.heap.size + 1,7,none⟩=some (.slice x1 y1 z1)∧Y.cell? ⟨w.heap.size + 1,8,none⟩=some (.slice (some ⟨w.heap.size + 1 + 1 + 1 + 1,0,none⟩) N N):=by
   refine ⟨?_,?_,?_,?_,?_,?_,?_,?_,?_⟩
   iterate 9 (unfold World.cell?;rw [p3];rfl)
  refine bodyPost_ret (v:=.agg (lk9 8 ⟨#[]⟩ (.slice x1 y1 z1) (.slice (some ⟨w.heap.size + 1 + 1 + 1 + 1,0,none⟩) N N))) (by simp [results,Tryz.results85,go_sem,lk9,y0]) rfl ⟨_,rfl,gY,by omega,bY⟩
end Lx
end Go.Proofs.YtcnfchblfcfimaaGreatDoor
namespace Go.Proofs.YtcnfchblfcfimaaGreatDoor
namespace Lx
open Go.RowKit
def vn1:VT 1:=vH 1 false false nilB 0 nilB
def hdL (k:Int) (t:ByteArray) (ns:List ByteArray):Hd:=⟨k,false,false,nilB,0,0,t,ns⟩
def lkV (h:Eh) (m:Nat):(n:Nat)×VT n :=
 if h.op=2∨h.op=5 then ⟨2,(hdL 9 h.name [],List.replicate 1 vn1)⟩
 else if h.op=3∨h.op=6 then ⟨2,(hdL 8 nilB h.names,List.replicate m vn1)⟩
 else if h.op=7 then ⟨h.vn,h.val⟩ else ⟨1,vn1⟩
theorem rd_vn1 (W:World):RD 1 W vn1 (.slice none 0 0) (.slice none 0 0):=⟨Or.inl ⟨rfl,rfl⟩,Or.inl ⟨rfl,rfl⟩⟩
theorem rpt_get {N i r:Nat} {c:List Value} {v:Value} (hi:i<N) (h:c[r]?=some v):(rpt N c)[i * c.length + r]?=some v:=by
 obtain ⟨k,rfl⟩:∃ k,N=i + (1 + k):=⟨N - i - 1,by omega⟩
 rw [rpt_add,rpt_add]
 rw [List.getElem?_append_right (by rw [rpt_len];omega),rpt_len,Nat.add_sub_cancel_left]
 have hr:=(List.getElem?_eq_some_iff.1 h).1
 have e1:rpt 1 c=c:=by simp [rpt]
 rw [e1,List.getElem?_append_left hr]
 exact h
theorem rd_nulls {W:World} {g N:Nat} {h:Hd} {ns:Value} (hg:W.heap[g]?=some (.cells (rpt N (nc9 1)).toArray 31 (0,0))) (hN:N≤maxLen) (hn:NL W ns h.names):RD 2 W ((h,List.replicate N vn1):VT 2) ns (.slice (some ⟨g,0,none⟩) N N):=by
 have hlt:=(Array.getElem?_eq_some_iff.1 hg).1
 refine ⟨hn,Or.inr ⟨g,0,N,none,by simp,by simp,hN,fun _=>⟨rfl,hlt⟩,fun i hi=>?_⟩⟩
 simp only [List.length_replicate] at hi
 simp only [List.getElem_replicate]
 refine ⟨.slice none 0 0,.slice none 0 0,fun j v hj=>?_,rd_vn1 W⟩
 have h9:(nc9 1)[j]?=some v:=hj
 unfold World.cell?
 rw [hg]
 have:=rpt_get hi h9
 rw [show (nc9 1).length=9 from rfl] at this
 simpa using this
def elen:(n:Nat)→ET n→Nat
 | 0,_=>0
 | _ + 1,x=>x.2.length
def LkP (h:Eh) (m:Nat) (w:World) (e:Ending) (w':World):Prop:=∃ ns ls,e=.returned (.agg (vals (vhd _ (lkV h m).2) ns ls))∧RD _ w' (lkV h m).2 ns ls∧Below w.heap.size w w'
theorem like_any (n:Nat) (x:ET n) (q:Sl) (w:World) (hr:RE n w x q) (hg:GE n x):Calls Tryz.prog 85 #[.agg (ecl (ehd n x) q)] w fun e w'=>LkP (ehd n x) (elen n x) w e w':=by
 cases n with
 | zero=>exact Empty.elim x
 | succ n =>
  obtain ⟨⟨k,nm,nms,vn,val⟩,l⟩:=x
  show Calls _ _ #[.agg (ecl ⟨k,nm,nms,vn,val⟩ q)] _ fun e w'=>LkP ⟨k,nm,nms,vn,val⟩ l.length w e w'
  unfold LkP
  by_cases h2:k=2∨k=5
  ·have e:lkV ⟨k,nm,nms,vn,val⟩ l.length=⟨2,(hdL 9 nm [],List.replicate 1 vn1)⟩:=by simp [lkV,h2]
   rw [e]
   refine (like_tag k h2 n nm nms vn val l q w hr).mono ?_
   rintro e w1 ⟨g,rfl,hg1,hg2,hb⟩
   exact ⟨.slice none 0 0,_,rfl,rd_nulls (by simpa [rpt] using hg1) (by decide) (Or.inl ⟨rfl,rfl⟩),hb⟩
  ·by_cases h3:k=3∨k=6
   ·have e:lkV ⟨k,nm,nms,vn,val⟩ l.length=⟨2,(hdL 8 nilB nms,List.replicate l.length vn1)⟩:=by simp [lkV,h2,h3]
    rw [e]
    have hl:l.length≤100000:=hg.2.1
    refine (like_rec k h3 n nm nms vn val l q w hl hr).mono ?_
    rintro e w1 ⟨g,rfl,hg1,hg2,hb⟩
    exact ⟨q.ns,_,rfl,rd_nulls hg1 (by unfold maxLen;omega) (hr.1.below hb),hb⟩
   ·by_cases h7:k=7
    ·have e:lkV ⟨k,nm,nms,vn,val⟩ l.length=⟨vn,val⟩:=by simp [lkV,h7]
     rw [e]
     subst h7
     refine (like_val n nm nms vn val l q w hr).mono ?_
     rintro e w1 ⟨rfl,hb⟩
     exact ⟨q.vs,q.vl,rfl,hr.2.1.below hb,hb⟩
    ·have e:lkV ⟨k,nm,nms,vn,val⟩ l.length=⟨1,vn1⟩:=by simp [lkV,h2,h3,h7]
     rw [e]
     refine (like_null k ⟨fun e=>h2 (Or.inl e),fun e=>h2 (Or.inr e),fun e=>h3 (Or.inl e),fun e=>h3 (Or.inr e),h7⟩ n nm nms vn val l q w hr).mono ?_
     rintro e w1 ⟨rfl,hb⟩
     exact ⟨.slice none 0 0,.slice none 0 0,rfl,rd_vn1 w1,hb⟩
theorem siz_nulls (h:Hd) (m:Nat):siz 2 ((h,List.replicate m vn1):VT 2)=1 + m:=by
 show 1 + suml ((List.replicate m vn1).map (siz 1))=1 + m
 induction m with
 | zero=>rfl
 | succ m ih=>rw [List.replicate_succ,List.map_cons,suml,show siz 1 vn1=1 from rfl];omega
theorem sz_nulls (h:Hd) (m:Nat) (h1:h.text.size≤281474976710656) (h2:h.dig.size≤281474976710656) (h3:h.names.length≤281474976710656) (h4:∀ s∈h.names,s.size≤281474976710656):Sz 2 ((h,List.replicate m vn1):VT 2):=by
 refine ⟨h1,h2,h3,h4,fun y hy=>?_⟩
 rw [List.eq_of_mem_replicate hy]
 exact (vh_z 1 false false nilB 0 nilB nil_z nil_z).1
theorem lk_ready {n:Nat} {x:ET n} {w:World} {ns ls:Value} (hg:GE n x) (hr:RD _ w (lkV (ehd n x) (elen n x)).2 ns ls):Rdy _ w (lkV (ehd n x) (elen n x)).2 ns ls:=by
 cases n with
 | zero=>exact Empty.elim x
 | succ n =>
  obtain ⟨⟨k,nm,nms,vn,val⟩,l⟩:=x
  obtain ⟨⟨g1,g2,g3,g4,g5⟩,hl,_⟩:=hg
  simp only at g1 g2 g3 g4 g5 hl
  have key:Sz _ (lkV ⟨k,nm,nms,vn,val⟩ l.length).2∧siz _ (lkV ⟨k,nm,nms,vn,val⟩ l.length).2≤200000:=by
   by_cases h2:k=2∨k=5
   ·have e:lkV ⟨k,nm,nms,vn,val⟩ l.length=⟨2,(hdL 9 nm [],List.replicate 1 vn1)⟩:=by simp [lkV,h2]
    rw [e]
    exact ⟨sz_nulls _ _ g1 nil_z (Nat.zero_le _) (fun s hs=>absurd hs (by simp [hdL])),by rw [siz_nulls];omega⟩
   ·by_cases h3:k=3∨k=6
    ·have e:lkV ⟨k,nm,nms,vn,val⟩ l.length=⟨2,(hdL 8 nilB nms,List.replicate l.length vn1)⟩:=by simp [lkV,h2,h3]
     rw [e]
     exact ⟨sz_nulls _ _ nil_z nil_z (by show nms.length≤_;omega) g3,by rw [siz_nulls];omega⟩
    ·by_cases h7:k=7
     ·have e:lkV ⟨k,nm,nms,vn,val⟩ l.length=⟨vn,val⟩:=by simp [lkV,h7]
      rw [e]
      exact ⟨g4,g5⟩
     ·have e:lkV ⟨k,nm,nms,vn,val⟩ l.length=⟨1,vn1⟩:=by simp [lkV,h2,h3,h7]
      rw [e]
      exact vh_z 1 false false nilB 0 nilB nil_z nil_z
  exact ⟨hr,key.1,key.2⟩
def SL (n:Nat) (x:ET n) (w:World):Prop:=GE n x∧Ut.Gu w
def shP (n:Nat) (x:ET n):Prop:=IsV _ (lkV (ehd n x) (elen n x)).2∧Win _ (lkV (ehd n x) (elen n x)).2
def isCn (k:Int):Prop:=k=1∨k=2∨k=3∨k=5
def fiP (n:Nat) (x:ET n):Prop:=((ehd n x).op=4→elen n x=1)∧((ehd n x).op=12→2≤elen n x)∧((ehd n x).op=7→isCn (vhd _ (ehd n x).val).kind)∧IsV _ (lkV (ehd n x) (elen n x)).2
theorem SL.low {n:Nat} {x:ET n} {w W:World} (h:SL n x w) (hb:Below w.heap.size w W):SL n x W:=⟨h.1,h.2.below hb⟩
set_option maxHeartbeats 2000000 in
set_option maxRecDepth 100000 in
theorem isShort_anyE (n:Nat) (x:ET n) (q:Sl) (w:World) (hr:RE n w x q) (hs:SL n x w):Calls Tryz.prog 39 #[.agg (ecl (ehd n x) q)] w fun e w'=>TB (shP n x) w e w':=by
 have hl:=hide (fun o=>like_any n x q (w.alloc o) (hr.below (below_al (Below.refl _ _))) hs.1)
 obtain ⟨x1,y1,z1,x2,y2,z2,x3,y3,z3,x4,y4,z4,hqs⟩:=hr.shape
 subst hqs
 obtain ⟨E,hE⟩:=chk_ex _ (lkV (ehd n x) (elen n x)).2
 have hk:=hide (fun ns ls W (hb:Below w.heap.size w W) (h:RD _ W (lkV (ehd n x) (elen n x)).2 ns ls)=>check_any _ (lkV (ehd n x) (elen n x)).2 ns ls W (lk_ready hs.1 h) (hs.2.below hb) E hE)
 have hx:Hid (shP n x↔E=0):=by
  show shP n x↔E=0
  rcases hE with ⟨rfl,h⟩|⟨rfl,h,h'⟩|⟨rfl,h,h'⟩
  ·exact ⟨fun q=>absurd q.1 h,fun q=>by cases q⟩
  ·exact ⟨fun q=>absurd q.2 h',fun q=>by cases q⟩
  ·exact ⟨fun _=>rfl,fun _=>⟨h,h'⟩⟩
 obtain ⟨p,hp⟩:∃ p,shP n x=p:=⟨_,rfl⟩
 rw [hp] at hx ⊢
 have X0:=hide (ex_new w (ehd n x) ⟨.slice x1 y1 z1,.slice x2 y2 z2,.slice x3 y3 z3,.slice x4 y4 z4⟩)
 clear hr hs hE hp
 unfold LkP at hl
 obtain ⟨h,hh⟩:∃ h,ehd n x=h:=⟨_,rfl⟩
 obtain ⟨m,hm⟩:∃ m,elen n x=m:=⟨_,rfl⟩
 rw [hh,hm] at hl hk
 rw [hh] at X0 ⊢
 clear hh hm
 obtain ⟨V,hV⟩:∃ V,lkV h m=V:=⟨_,rfl⟩
 rw [hV] at hl hk
 clear hV
 obtain ⟨vn,v⟩:=V
 simp only at hl hk
 simp only [ecl] at hl X0 ⊢
 go_enter Tryz.func39, Tryz.ntmps39
 go_wp2_with (go_at_call 85;refine Sto.out ?_)
 refine Sto.mk ?_
 refine (hl.out _).mono ?_
 rintro e w1 ⟨ns,ls,rfl,hrd,hb1⟩
 have B1:=hide (below_then (below_al (Below.refl _ _)) hb1)
 have hc:=hide (hk.out ns ls w1 B1.out hrd)
 clear hb1 hrd hk hl
 unfold vals at hc ⊢
 go_wp2_with (go_at_call 84;refine Sto.out ?_)
 refine Sto.mk ?_
 refine hc.out.mono ?_
 rintro e w2 ⟨rfl,hb2⟩
 have B2:=hide (below_then B1.out hb2)
 go_wp2_with fail
 go_ret
 exact ⟨_,rfl,(show Hid _ from ⟨fun q=>hx.out.2 (by simpa using q),fun q=>by simpa using hx.out.1 q⟩),B2.out⟩
end Lx
end Go.Proofs.YtcnfchblfcfimaaGreatDoor
namespace Go.Proofs.YtcnfchblfcfimaaGreatDoor
namespace Lx
open Go.RowKit
variable {dq : {_f : (p : Prop) → Decidable p // True}}
theorem isV_null:IsV 1 vn1:=by
 refine ⟨⟨by decide,by decide,rfl,Or.inr rfl⟩,⟨fun h=>?_,fun h=>?_,fun h=>?_,fun h=>?_⟩,fun y hy=>absurd hy (by simp [vn1,vH])⟩
 all_goals exact absurd h (by decide)
theorem lk_four {h:Eh} {m:Nat} (k:h.op=4∨h.op=12):lkV h m=⟨1,vn1⟩:=by
 rcases k with k|k <;> simp [lkV,k]
set_option maxHeartbeats 4000000 in
set_option maxRecDepth 100000 in
theorem isFilled_anyE (n:Nat) (x:ET n) (q:Sl) (w:World) (hr:RE n w x q) (hs:SL n x w):Calls Tryz.prog 38 #[.agg (ecl (ehd n x) q)] w fun e w'=>TB (fiP n x) w e w':=by
 have hl:=hide (fun W (hb:Below w.heap.size w W)=>like_any n x q W (hr.below hb) hs.1)
 have hlen:∃ a c,q.ls=.slice a (elen n x) c:=by
  cases n with
  | zero=>exact Empty.elim x
  | succ n =>
   obtain ⟨a,c,e,_⟩:=hr.tl.len
   exact ⟨a,c,e⟩
 obtain ⟨x1,y1,z1,x2,y2,z2,x3,y3,z3,x4,y4,z4,hqs⟩:=hr.shape
 subst hqs
 obtain ⟨a,c,hle⟩:=hlen
 obtain ⟨rfl,rfl,rfl⟩:=Value.slice.inj hle
 clear hle
 obtain ⟨E,hE⟩:=chk_ex _ (lkV (ehd n x) (elen n x)).2
 have hk:=hide (fun ns ls W (hb:Below w.heap.size w W) (h:RD _ W (lkV (ehd n x) (elen n x)).2 ns ls)=>check_any _ (lkV (ehd n x) (elen n x)).2 ns ls W (lk_ready hs.1 h) (hs.2.below hb) E hE)
 have hx:IsV _ (lkV (ehd n x) (elen n x)).2↔E≠40:=by
  rcases hE with ⟨rfl,h⟩|⟨rfl,h,h'⟩|⟨rfl,h,h'⟩
  ·exact ⟨fun q=>absurd q h,fun q=>absurd rfl q⟩
  ·exact ⟨fun _=>by decide,fun _=>h⟩
  ·exact ⟨fun _=>by decide,fun _=>h⟩
 have hP:Hid (fiP n x↔((ehd n x).op=4→elen n x=1)∧((ehd n x).op=12→2≤elen n x)∧((ehd n x).op=7→isCn (vhd _ (ehd n x).val).kind)∧E≠40):=by
  show _↔_
  unfold fiP
  rw [hx]
 have h40:Hid ((ehd n x).op=4∨(ehd n x).op=12→E≠40):=fun k=>hx.1 (by rw [lk_four k];exact isV_null)
 obtain ⟨p,hp⟩:∃ p,fiP n x=p:=⟨_,rfl⟩
 rw [hp] at hP ⊢
 have X0:=hide (ex_new w (ehd n x) ⟨.slice x1 y1 z1,.slice x2 (elen n x) z2,.slice x3 y3 z3,.slice x4 y4 z4⟩)
 clear hr hs hE hp hx
 unfold LkP at hl
 obtain ⟨h,hh⟩:∃ h,ehd n x=h:=⟨_,rfl⟩
 obtain ⟨m,hm⟩:∃ m,elen n x=m:=⟨_,rfl⟩
 rw [hh,hm] at hl hk hP
 rw [hh] at h40
 rw [hh,hm] at X0 ⊢
 clear hh hm
 obtain ⟨V,hV⟩:∃ V,lkV h m=V:=⟨_,rfl⟩
 rw [hV] at hl hk
 clear hV
 obtain ⟨vn,v⟩:=V
 simp only at hl hk
 obtain ⟨op,nm,nms,hvn,hval⟩:=h
 have hic:=hide (fun W=>isConst_any (vhd hvn hval).kind W)
 simp only [ecl] at hl X0 hP h40 ⊢
 by_cases k4:op=4
 ·subst k4
  have hE:=h40.out (Or.inl rfl)
  have hq:p↔m=1:=by rw [hP.out];simp [hE]
  obtain ⟨b,hb⟩:=tells p
  have hbb:=hide hb
  have hmb:((m:Int)==1)=b:=by
   rw [Bool.eq_iff_iff,hb,hq]
   simp
   omega
  clear hq hb
  go_enter Tryz.func38, Tryz.ntmps38
  go_wp2_with fail
  go_ret
  exact ⟨_,rfl,(show Hid _ from ⟨fun q=>hbb.out.1 (by first|exact q|exact hmb.symm.trans q),fun q=>by first|exact hbb.out.2 q|exact hmb.trans (hbb.out.2 q)⟩),below_al (Below.refl _ _)⟩
 by_cases k12:op=12
 ·subst k12
  have hE:=h40.out (Or.inr rfl)
  have hq:p↔2≤m:=by rw [hP.out];simp [hE]
  have hQ:=hide hq
  clear hq
  by_cases h2:(2:Int)≤(m:Int)
  ·go_enter Tryz.func38, Tryz.ntmps38
   go_wp2_with fail
   go_ret
   exact TB.yes (hQ.out.2 (by omega)) (below_al (Below.refl _ _))
  ·go_enter Tryz.func38, Tryz.ntmps38
   go_wp2_with fail
   go_ret
   exact TB.no (fun q=>by have:=hQ.out.1 q;omega) (below_al (Below.refl _ _))
 have tailP:Hid (∀ w1,Below w.heap.size w w1→∀ e w2,(e=.returned (.bool (E != 40))∧Below w.heap.size w w2)→(op=7→isCn (vhd hvn hval).kind)→TB p w e w2):=by
  rintro w1 hb1 e w2 ⟨rfl,hb2⟩ hc
  refine ⟨_,rfl,(show Hid _ from ⟨fun q=>hP.out.2 ⟨fun e=>absurd e k4,fun e=>absurd e k12,hc,by simpa using q⟩,fun q=>by simpa using (hP.out.1 q).2.2.2⟩),hb2⟩
 by_cases k7:op=7
 ·subst k7
  go_enter Tryz.func38, Tryz.ntmps38
  go_wp2_with (go_at_call 83;refine Sto.out ?_)
  refine Sto.mk ?_
  refine (hic.out _).mono ?_
  rintro e w1 ⟨b,rfl,hT,hb1⟩
  have hT1:=hide hT
  have B1:=hide (below_then (below_al (Below.refl _ _)) hb1)
  have X1:=hide (X0.out.below hb1)
  have hl1:=hide (hl.out w1 B1.out)
  have x0:=X1.out.cells
  clear hT hb1 hl X0
  cases b
  ·go_wp2_with fail
   go_ret
   exact TB.no (fun q=>by have:=hT1.out.2 ((hP.out.1 q).2.2.1 (by first|rfl|trivial));cases this) B1.out
  ·have hc7:=hide (hT1.out.1 rfl)
   go_wp2_with (go_at_call 85;refine Sto.out ?_)
   refine Sto.mk ?_
   refine hl1.out.mono ?_
   rintro e w2 ⟨ns,ls,rfl,hrd,hb2⟩
   have B2:=hide (below_then B1.out hb2)
   have hc:=hide (hk.out ns ls w2 B2.out hrd)
   clear hb2 hrd hk hl1
   unfold vals at hc ⊢
   go_wp2_with (go_at_call 84;refine Sto.out ?_)
   refine Sto.mk ?_
   refine hc.out.mono ?_
   rintro e w3 ⟨rfl,hb3⟩
   have B3:=hide (below_then B2.out hb3)
   go_wp2_with fail
   go_ret
   exact tailP.out _ B1.out _ _ ⟨rfl,B3.out⟩ (fun _=>hc7.out)
 ·have hl1:=hide (hl.out _ (below_al (o:=.cells #[.int .i64 op,.string nm,.slice x1 y1 z1,.slice x2 m z2,.int .i64 (vhd hvn hval).kind,.bool (vhd hvn hval).flag,.bool (vhd hvn hval).neg,.string (vhd hvn hval).dig,.int .i64 (vhd hvn hval).exp,.int .u64 (vhd hvn hval).bits,.string (vhd hvn hval).text,.slice x3 y3 z3,.slice x4 y4 z4] 33) (Below.refl _ _)))
  clear hl
  go_enter Tryz.func38, Tryz.ntmps38
  go_wp2_with (go_at_call 85;refine Sto.out ?_)
  refine Sto.mk ?_
  refine hl1.out.mono ?_
  rintro e w2 ⟨ns,ls,rfl,hrd,hb2⟩
  have B2:=hide (below_then (below_al (Below.refl _ _)) hb2)
  have hc:=hide (hk.out ns ls w2 B2.out hrd)
  clear hb2 hrd hk hl1
  unfold vals at hc ⊢
  go_wp2_with (go_at_call 84;refine Sto.out ?_)
  refine Sto.mk ?_
  refine hc.out.mono ?_
  rintro e w3 ⟨rfl,hb3⟩
  have B3:=hide (below_then B2.out hb3)
  go_wp2_with fail
  go_ret
  exact tailP.out _ B2.out _ _ ⟨rfl,B3.out⟩ (fun e=>absurd e k7)
theorem askShort:Ask 39 shP SL:=⟨fun n x q w hr hs=>isShort_anyE n x q w hr hs,fun n x w W h hb=>h.low hb,fun n h l w hs i hi=>⟨hs.1.2.2 _ (List.getElem_mem hi),hs.2⟩⟩
theorem askFilled:Ask 38 fiP SL:=⟨fun n x q w hr hs=>isFilled_anyE n x q w hr hs,fun n x w W h hb=>h.low hb,fun n h l w hs i hi=>⟨hs.1.2.2 _ (List.getElem_mem hi),hs.2⟩⟩
def lck (dq:{_f:(p:Prop)→Decidable p // True}) (n:Nat) (x:ET n):Int:=@ite _ (¬ (evA bareP n x∧evA fiP n x)) (dq.1 _) 140 (@ite _ (evA shP n x∧edep n x≤16∧esiz n x≤512) (dq.1 _) 0 2)
theorem lck_is (n:Nat) (x:ET n):ChkE fiP shP n x (lck dq n x):=by
 unfold lck ChkE
 by_cases a:evA bareP n x∧evA fiP n x
 ·by_cases b:evA shP n x∧edep n x≤16∧esiz n x≤512
  ·simp [a,b]
  ·simp [a,b]
 ·simp [a]
theorem check_is (n:Nat) (x:ET n) (q:Sl) (w:World) (hr:RE n w x q) (hs:SL n x w) (hz:esiz n x≤200000):Calls Tryz.prog 16 #[.agg (ecl (ehd n x) q)] w fun e w'=>e=.returned (.int .i64 (lck dq n x))∧Below w.heap.size w w' :=
 lcheck_any askFilled askShort n x q w hr hs hs hz _ (lck_is n x)
theorem rd_bound {f:Nat} {l:List UInt8} {x:ET (dp f + 1)} (h:rdR f l=.inr x):GE _ x∧esiz _ x≤2000:=by
 unfold rdR at h
 split at h
 ·rename_i h0
  obtain ⟨h1,h2,h3⟩:=scR_ok l h0
  have hok:=h3 (l.length:Nat)
  revert h
  cases hm:mpgT (stp f) ((scR l).2.2++[⟨0,[],(l.length:Nat)⟩]) with
  | inl p=>intro h;cases h
  | inr y =>
   intro h
   have hlen:((scR l).2.2++[(⟨0,[],(l.length:Nat)⟩:Tk)]).length≤1025:=by simp;omega
   obtain ⟨g1,g2⟩:=mpg_kd (stp_nx f) (stp_kd f) _ _ hok (by omega) hm
   have e:x=y.1:=by
    obtain ⟨y1,y2⟩:=y
    cases y2 with
    | nil=>cases h
    | cons t r =>
     simp only [endR] at h
     split at h
     ·cases h;rfl
     ·cases h
   rw [e]
   exact ⟨g1,by omega⟩
 ·cases h
theorem rd_err {f:Nat} {l:List UInt8} {y:Int×Int} (h:rdR f l=.inl y):y.1≠0:=by
 unfold rdR at h
 split at h
 ·revert h
  cases endR (mpgT (stp f) ((scR l).2.2++[⟨0,[],(l.length:Nat)⟩])) with
  | inl p=>intro h;cases h;simp
  | inr e=>intro h;cases h
 ·rename_i h0
  cases h
  simp only
  omega
def paR (dq:{_f:(p:Prop)→Decidable p // True}) (f:Nat) (l:List UInt8):Sum (Int×Int) (ET (dp f + 1)):=prsO (lck dq _) (rdR f l)
theorem parse_is (hP:ParseOk) (f:Nat) (hf:1025≤f) (s:ByteArray) (w:World) (g:Gg w) (gp:Gp w) (hz:s.size≤1000000) :
  Calls Tryz.prog 9 #[.string s] w fun e w'=>RdP (dp f + 1) w (paR dq f (bl s)) e w' :=
 parse_any hP f hf s w g gp hz (lck dq _) (fun y h=>rd_err h) fun x q W h hr hb=>check_is _ x q W hr ⟨(rd_bound h).1,g.gu.below hb⟩ (by have:=(rd_bound h).2;omega)
end Lx
end Go.Proofs.YtcnfchblfcfimaaGreatDoor
namespace Go.Proofs.YtcnfchblfcfimaaGreatDoor
namespace Lx
open Go.RowKit
def prsT {n:Nat} (C:TT n→Int) (o:Sum (Int×Int) (TT n)):Sum (Int×Int) (TT n):=match o with
 | .inl y=>.inl y
 | .inr x=>if C x=0 then .inr x else .inl (2,0)
set_option maxHeartbeats 4000000 in
set_option maxRecDepth 100000 in
theorem ptype_any (hP:ParseOk) (f:Nat) (hf:1025≤f) (s:ByteArray) (w:World) (g:Gg w) (gp:Gp w) (hz:s.size≤1000000) (C:TT f→Int)
  (hE:∀ y,rdRt f (bl s)=.inl y→y.1≠0)
  (hC:∀ (x:TT f) (q:S2) (W:World),rdRt f (bl s)=.inr x→RTq f W x q→Below w.heap.size w W→Calls Tryz.prog 52 #[.agg (tcl (thd f x) q)] W fun e w'=>e=.returned (.int .i64 (C x))∧Below W.heap.size W w') :
  Calls Tryz.prog 20 #[.string s] w fun e w'=>RdT f w (prsT C (rdRt f (bl s))) e w':=by
 have H:=hide (fun o=>tread_any hP f hf s (w.alloc o) (g.below (below_al (Below.refl w.heap.size w)) (by have:=g.sz;omega)) (gp.below (below_al (Below.refl _ _))) hz)
 have HC:=hide hC
 have HE:=hide hE
 clear hP g gp hC hE
 obtain ⟨R,hR⟩:∃ R,rdRt f (bl s)=R:=⟨_,rfl⟩
 rw [hR] at H HC HE ⊢
 clear hR
 have hlt:w.heap.size<w.heap.size + 1:=Nat.lt_succ_self _
 go_enter Tryz.func20, Tryz.ntmps20
 go_wp2_with (go_at_call 50;refine Sto.out ?_)
 refine Sto.mk ?_
 refine (H.out _).mono ?_
 rcases R with ⟨er,p⟩|x
 ·rintro e w1 ⟨hb,rfl⟩
  have h0:=HE.out _ rfl
  simp only at h0
  have Z1:=hide (((tz_new w)).below hb)
  have B1:=hide (below_then (below_al (Below.refl _ _)) hb)
  have b0:(er==0)=false:=by simp [h0]
  have k0:=Z1.out.cells
  have z0:=Z1.out.frz
  have kl:=Z1.out.lt
  clear hb H HC HE
  unfold tcl tvs tz tzs tf at *
  dsimp only at *
  go_wp2_with fail
  have ex1:=ty_put (h:=tz) (q:=tzs) Z1.out
  simp only [tz,tzs,tf] at ex1
  generalize hY:World.setCell (World.setCell (World.setCell w1 _ _) _ _) _ _=Y at ex1 ⊢
  have bY:Below w.heap.size w1 Y:=by
   rw [←hY]
   iterate 3 (refine Below.setCell ?_ (show w.heap.size≤w.heap.size from Nat.le_refl _) _)
   exact Below.refl _ _
  clear hY k0 z0
  generalize hW:World.alloc Y _=X
  have xX:Ty X w.heap.size tz tzs:=by rw [←hW];exact ex1.below (below_al (Below.refl _ _))
  have bX:Below w.heap.size w X:=by rw [←hW];exact (B1.out.trans bY).alloc (by have:=ex1.lt;omega) _
  clear hW
  have q0:=xX.cells
  unfold tz tzs tf at q0
  refine bodyPost_ret (v:=.tuple #[.agg (tcl tz tzs),.int .i64 er,.int .i64 p]) (by simp [results,Tryz.results20,go_sem,q0,tcl,tvs,tz,tzs,tf]) rfl ⟨bX,rfl⟩
 ·rintro e w1 ⟨hb,q,rfl,hk⟩
  obtain ⟨b1,b2,b3,b4,b5,b6,hqs⟩:=hk.rd.shape
  subst hqs
  have Z1:=hide ((tz_new w).below hb)
  have B1:=hide (below_then (below_al (Below.refl _ _)) hb)
  have K1:=hide hk
  have hc:=hide (HC.out x _ (w1.alloc (.cells (tcl (thd f x) ⟨.slice b1 b2 b3,.slice b4 b5 b6⟩) 48)) rfl (hk.al.rd) (below_al B1.out))
  obtain ⟨c,hcx⟩:∃ c,C x=c:=⟨_,rfl⟩
  rw [hcx] at hc
  have HX:=hide hcx
  clear hb hk H HC HE hcx
  simp only [tcl,tvs] at hc ⊢
  go_wp2_with (go_at_call 52;refine Sto.out ?_)
  refine Sto.mk ?_
  refine hc.out.mono ?_
  rintro e w2 ⟨rfl,hb2⟩
  have Z2:=hide ((Z1.out.below (below_al (Below.refl _ _))).below hb2)
  have X2:=hide ((ty_new w1 (thd f x) ⟨.slice b1 b2 b3,.slice b4 b5 b6⟩).below hb2)
  have K2:=hide (K1.out.al.below hb2)
  have B2:=hide (below_then (below_al B1.out) hb2)
  clear hb2 hc
  have z0:=Z2.out.frz
  have k1:=X2.out.cells
  by_cases h0:c=0
  ·have k0:=Z2.out.cells
   subst h0
   go_wp2_with fail
   have ex1:=ty_put (h:=thd f x) (q:=⟨.slice b1 b2 b3,.slice b4 b5 b6⟩) Z2.out
   simp only [] at ex1
   generalize hY:World.setCell (World.setCell (World.setCell w2 _ _) _ _) _ _=Y at ex1 ⊢
   have bY:Below w.heap.size w2 Y:=by
    rw [←hY]
    iterate 3 (refine Below.setCell ?_ (show w.heap.size≤w.heap.size from Nat.le_refl _) _)
    exact Below.refl _ _
   have kY:∀ j,j≠w.heap.size→Y.heap[j]?=w2.heap[j]?:=fun j hj=>by
    rw [←hY]
    iterate 3 (rw [Below.heap_setCell _ _ _ _ (by show j≠w.heap.size;exact hj)])
   have sY:Y.heap.size=w2.heap.size:=by rw [←hY];simp
   clear hY k0 z0 k1
   have q0:=ex1.cells
   refine bodyPost_ret (v:=.tuple #[.agg (tcl (thd f x) ⟨.slice b1 b2 b3,.slice b4 b5 b6⟩),.int .i64 0,.int .i64 0]) (by simp [results,Tryz.results20,go_sem,q0,tcl,tvs]) rfl ?_
   simp only [prsT,HX.out,if_true]
   refine ⟨B2.out.trans bY,_,rfl,?_⟩
   have hz2:=K2.out.2.1
   exact KQ.fin (K2.out.move (W1:=Y) (by omega) fun k h1 h2=>kY k (by simp only [World.size_alloc] at h1;omega)) (by simp only [World.size_alloc];omega)
  ·have b0:(c==0)=false:=by simp [h0]
   have k0:=Z2.out.cells
   unfold tz tzs tf at k0
   clear k1
   go_wp2_with fail
   have ex1:=ty_put (h:=tz) (q:=tzs) Z2.out
   simp only [tz,tzs,tf] at ex1
   generalize hY:World.setCell (World.setCell (World.setCell w2 _ _) _ _) _ _=Y at ex1 ⊢
   have bY:Below w.heap.size w2 Y:=by
    rw [←hY]
    iterate 3 (refine Below.setCell ?_ (show w.heap.size≤w.heap.size from Nat.le_refl _) _)
    exact Below.refl _ _
   clear hY k0 z0
   have q0:=(show Ty Y w.heap.size tz tzs from ex1).cells
   unfold tz tzs tf at q0
   refine bodyPost_ret (v:=.tuple #[.agg (tcl tz tzs),.int .i64 2,.int .i64 0]) (by simp [results,Tryz.results20,go_sem,q0,tcl,tvs,tz,tzs,tf]) rfl ?_
   simp only [prsT,HX.out,h0,if_false]
   exact ⟨B2.out.trans bY,rfl⟩
end Lx
end Go.Proofs.YtcnfchblfcfimaaGreatDoor
namespace Go.Proofs.YtcnfchblfcfimaaGreatDoor
namespace Lx
open Go.RowKit
variable {dq : {_f : (p : Prop) → Decidable p // True}}
theorem GT.sz:∀ {n:Nat} {x:TT n},GT n x→TSz n x
 | 0,x,_=>Empty.elim x
 | n + 1,x,h=>⟨by have:=h.1;omega,h.2.1,fun y hy=>(h.2.2.2 y hy).sz⟩
def tck (dq:{_f:(p:Prop)→Decidable p // True}) (n:Nat) (x:TT n):Int:=@ite _ (¬ IsT n x) (dq.1 _) 110 (@ite _ (TWin n x) (dq.1 _) 0 2)
theorem tck_is (n:Nat) (x:TT n):TChk n x (tck dq n x):=by
 unfold tck TChk
 by_cases a:IsT n x
 ·by_cases b:TWin n x
  ·simp [a,b]
  ·simp [a,b]
 ·simp [a]
theorem tcheck_is (n:Nat) (x:TT n) (q:S2) (w:World) (hr:RTq n w x q) (hg:GT n x) (hz:tsiz n x≤200000) (g:Ut.Gu w) (gt:Gt w):Calls Tryz.prog 52 #[.agg (tcl (thd n x) q)] w fun e w'=>e=.returned (.int .i64 (tck dq n x))∧Below w.heap.size w w' :=
 tcheck_any n x q.ns q.ls w ⟨hr,hg.sz,hz⟩ g gt _ (tck_is n x)
theorem trd_bound {f:Nat} {l:List UInt8} {x:TT f} (h:rdRt f l=.inr x):GT _ x∧tsiz _ x≤2000:=by
 unfold rdRt at h
 split at h
 ·rename_i h0
  obtain ⟨h1,h2,h3⟩:=scR_ok l h0
  have hok:=h3 (l.length:Nat)
  revert h
  cases hm:tyf f ((scR l).2.2++[⟨0,[],(l.length:Nat)⟩]) with
  | inl p=>intro h;cases h
  | inr y =>
   intro h
   have hlen:((scR l).2.2++[(⟨0,[],(l.length:Nat)⟩:Tk)]).length≤1025:=by simp;omega
   obtain ⟨g1,g2⟩:=tyf_ld f _ _ hok (by omega) hm
   have e:x=y.1:=by
    obtain ⟨y1,y2⟩:=y
    cases y2 with
    | nil=>cases h
    | cons t r =>
     simp only [endRt] at h
     split at h
     ·cases h;rfl
     ·cases h
   rw [e]
   exact ⟨g1,by omega⟩
 ·cases h
theorem trd_err {f:Nat} {l:List UInt8} {y:Int×Int} (h:rdRt f l=.inl y):y.1≠0:=by
 unfold rdRt at h
 split at h
 ·revert h
  cases endRt (tyf f ((scR l).2.2++[⟨0,[],(l.length:Nat)⟩])) with
  | inl p=>intro h;cases h;simp
  | inr e=>intro h;cases h
 ·rename_i h0
  cases h
  simp only
  omega
def paT (dq:{_f:(p:Prop)→Decidable p // True}) (f:Nat) (l:List UInt8):Sum (Int×Int) (TT f):=prsT (tck dq _) (rdRt f l)
theorem ptype_is (hP:ParseOk) (f:Nat) (hf:1025≤f) (s:ByteArray) (w:World) (g:Gg w) (gp:Gp w) (gt:Gt w) (hz:s.size≤1000000) :
  Calls Tryz.prog 20 #[.string s] w fun e w'=>RdT f w (paT dq f (bl s)) e w' :=
 ptype_any hP f hf s w g gp hz (tck dq _) (fun y h=>trd_err h) fun x q W h hr hb=>tcheck_is _ x q W hr (trd_bound h).1 (by have:=(trd_bound h).2;omega) (g.gu.below hb) (gt.below hb)
end Lx
end Go.Proofs.YtcnfchblfcfimaaGreatDoor
