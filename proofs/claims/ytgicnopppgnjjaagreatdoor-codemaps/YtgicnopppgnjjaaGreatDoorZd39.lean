/- Merged by program: VvRead, VyParse, CoMake, CoApp. -/
import Derived.Test.YtgicnopppgnjjaaGreatDoorZd36
import Derived.Test.YtgicnopppgnjjaaGreatDoorZd31
import Derived.Deep.RegionHeld3
import Derived.Test.YtgicnopppgnjjaaGreatDoorZd29
set_option linter.unusedSimpArgs false
set_option linter.unusedVariables false
namespace Go.Proofs.YtgicnopppgnjjaaGreatDoor
namespace Lx
open Go.RowKit
def endR {n:Nat} (o:Sum Int (ET n×List Tk)):Sum Int (ET n):=match o with
 | .inl p=>.inl p
 | .inr x=>match x.2 with
  | t :: _=>if t.w=0 then .inr x.1 else .inl t.p
  | []=>.inl 0
def rdO {n:Nat} (o:Sum Int (ET n)):Sum (Int×Int) (ET n):=match o with
 | .inl p=>.inl (140,p)
 | .inr e=>.inr e
def rdR (f:Nat) (l:List UInt8):Sum (Int×Int) (ET (dp f + 1)):=if (scR l).1=0 then rdO (endR (mpgT (stp f) ((scR l).2.2++[⟨0,[],l.length⟩]))) else .inl ((scR l).1,(scR l).2.1)
def RdP (n:Nat) (w:World) (o:Sum (Int×Int) (ET n)) (e:Ending) (w':World):Prop:=Below w.heap.size w w'∧match o with
 | .inl y=>e=.returned (.tuple #[.agg (ecl ze zs),.int .i64 y.1,.int .i64 y.2])
 | .inr x=>∃ q,e=.returned (.tuple #[.agg (ecl (ehd n x) q),.int .i64 0,.int .i64 0])∧KE n w' x q w.heap.size w'.heap.size
theorem scR_ok (l:List UInt8) (h:(scR l).1=0):(scR l).2.2.length≤1024∧l.length≤4096∧∀ e,Okl ((scR l).2.2++[⟨0,[],e⟩]):=by
 unfold scR at h ⊢
 by_cases hb:4096<l.length
 ·simp [hb] at h
 ·simp only [hb,if_false] at h ⊢
  cases hs:scnA nok l 0 [] with
  | inl x =>
   obtain ⟨e,q⟩:=x
   rw [hs] at h
   have:=(scn_err nok _ l 0 [] e q (Nat.le_refl _) hs).1
   simp at h
   omega
  | inr r =>
   obtain ⟨x,hx,h1,_,h3⟩:=scn_len nok _ _ _ _ _ (Nat.le_refl _) hs (by simp)
   refine ⟨h1,by omega,fun e=>⟨r,e,rfl,fun t ht=>?_⟩⟩
   have hx':r=x:=by simpa using hx
   rw [hx'] at ht
   have:=(h3 t ht).1
   omega
theorem blkT {w:World} {k:Nat} {c:Array Value} {T:TypeId} (h:w.heap[k]?=some (.cells c T (0,0))) (j:Nat) (u:Value):(w.setCell ⟨k,j,none⟩ u).heap[k]?=some (.cells (c.setIfInBounds j u) T (0,0)):=by
 rw [setCell_eq_setRow w k j _ _ (0,0) _ h,setRow_heap w k _ _ _ (0,0) h]
structure RB (k:Nat) (w:World) (E A:Int) (W:World):Prop where
 bel:Below k w W
 ex:W.heap[k]?=some (.cells (ecl ze zs) 33 (0,0))
 e:W.heap[k + 1]?=some (.cells #[.int .i64 E] 34 (0,0))
 a:W.heap[k + 1 + 1]?=some (.cells #[.int .i64 A] 3 (0,0))
section
variable {k : Nat} {w W : World} {E A : Int}
theorem RB.dr (h:RB k w E A W):RB k w E A W.drew:=⟨h.bel.drew,h.ex,h.e,h.a⟩
theorem RB.pe (h:RB k w E A W):RB k w E A (W.setCell ⟨k + 1,0,none⟩ (.int .i64 E)):=⟨h.bel.setCell (by show k≤k + 1;omega) _,by rw [Below.heap_setCell _ _ _ _ (by show k≠k + 1;omega)];exact h.ex,blkS h.e _,by rw [Below.heap_setCell _ _ _ _ (by show k + 1 + 1≠k + 1;omega)];exact h.a⟩
theorem RB.pa (h:RB k w E A W):RB k w E A (W.setCell ⟨k + 1 + 1,0,none⟩ (.int .i64 A)):=⟨h.bel.setCell (by show k≤k + 1 + 1;omega) _,by rw [Below.heap_setCell _ _ _ _ (by show k≠k + 1 + 1;omega)];exact h.ex,by rw [Below.heap_setCell _ _ _ _ (by show k + 1≠k + 1 + 1;omega)];exact h.e,blkS h.a _⟩
theorem RB.pz (h:RB k w E A W):RB k w E A (((((((((((((W.setCell ⟨k,0,none⟩ (.int .i64 0)).setCell ⟨k,1,none⟩ (.string ⟨#[]⟩)).setCell ⟨k,2,none⟩ (.slice none 0 0)).setCell ⟨k,3,none⟩ (.slice none 0 0)).setCell ⟨k,4,none⟩ (.int .i64 0)).setCell ⟨k,5,none⟩ (.bool false)).setCell ⟨k,6,none⟩ (.bool false)).setCell ⟨k,7,none⟩ (.string ⟨#[]⟩)).setCell ⟨k,8,none⟩ (.int .i64 0)).setCell ⟨k,9,none⟩ (.int .u64 0)).setCell ⟨k,10,none⟩ (.string ⟨#[]⟩)).setCell ⟨k,11,none⟩ (.slice none 0 0)).setCell ⟨k,12,none⟩ (.slice none 0 0)):=by
 obtain ⟨h1,h2,h3,h4⟩:=h
 refine ⟨?_,?_,?_,?_⟩
 ·iterate 13 (refine Below.setCell ?_ (show k≤k from Nat.le_refl _) _)
  exact h1
 ·have q0:=blkT h2 0 (.int .i64 0)
  have q1:=blkT q0 1 (.string ⟨#[]⟩)
  have q2:=blkT q1 2 (.slice none 0 0)
  have q3:=blkT q2 3 (.slice none 0 0)
  have q4:=blkT q3 4 (.int .i64 0)
  have q5:=blkT q4 5 (.bool false)
  have q6:=blkT q5 6 (.bool false)
  have q7:=blkT q6 7 (.string ⟨#[]⟩)
  have q8:=blkT q7 8 (.int .i64 0)
  have q9:=blkT q8 9 (.int .u64 0)
  have q10:=blkT q9 10 (.string ⟨#[]⟩)
  have q11:=blkT q10 11 (.slice none 0 0)
  have q12:=blkT q11 12 (.slice none 0 0)
  exact q12
 ·iterate 13 (rw [Below.heap_setCell _ _ _ _ (by show k + 1≠k;omega)])
  exact h3
 ·iterate 13 (rw [Below.heap_setCell _ _ _ _ (by show k + 1 + 1≠k;omega)])
  exact h4
theorem RB.low {W1:World} (h:RB k w E A W) (hb:Below (k + 3) W W1):RB k w E A W1:=⟨h.bel.trans (hb.mono (by omega)),(hb.block _ (by omega)).trans h.ex,(hb.block _ (by omega)).trans h.e,(hb.block _ (by omega)).trans h.a⟩
theorem RB.cells (h:RB k w E A W):W.cell? ⟨k,0,none⟩=some (.int .i64 0)∧W.cell? ⟨k,1,none⟩=some (.string ⟨#[]⟩)∧W.cell? ⟨k,2,none⟩=some (.slice none 0 0)∧W.cell? ⟨k,3,none⟩=some (.slice none 0 0)∧W.cell? ⟨k,4,none⟩=some (.int .i64 0)∧W.cell? ⟨k,5,none⟩=some (.bool false)∧W.cell? ⟨k,6,none⟩=some (.bool false)∧W.cell? ⟨k,7,none⟩=some (.string ⟨#[]⟩)∧W.cell? ⟨k,8,none⟩=some (.int .i64 0)∧W.cell? ⟨k,9,none⟩=some (.int .u64 0)∧W.cell? ⟨k,10,none⟩=some (.string ⟨#[]⟩)∧W.cell? ⟨k,11,none⟩=some (.slice none 0 0)∧W.cell? ⟨k,12,none⟩=some (.slice none 0 0)∧W.cell? ⟨k + 1,0,none⟩=some (.int .i64 E)∧W.cell? ⟨k + 1 + 1,0,none⟩=some (.int .i64 A):=by
 have hx:Ex W k ze zs:=⟨h.ex⟩
 obtain ⟨c0,c1,c2,c3,c4,c5,c6,c7,c8,c9,c10,c11,c12⟩:=hx.cells
 exact ⟨c0,c1,c2,c3,c4,c5,c6,c7,c8,c9,c10,c11,c12,by unfold World.cell?;rw [h.e];rfl,by unfold World.cell?;rw [h.a];rfl⟩
theorem RB.frz (h:RB k w E A W):(∀ j,W.frozen? ⟨k,j,none⟩=false)∧W.frozen? ⟨k + 1,0,none⟩=false∧W.frozen? ⟨k + 1 + 1,0,none⟩=false :=
 ⟨(show Ex W k ze zs from ⟨h.ex⟩).frz,by unfold World.frozen?;rw [h.e];rfl,by unfold World.frozen?;rw [h.a];rfl⟩
end
set_option maxHeartbeats 4000000 in
set_option maxRecDepth 100000 in
theorem out_wrong {k:Nat} {w W:World} {E A p:Int} {a0 a1 a2 a3 a7 a8 a9 a10 a11 a12 a13 a14 a15 a16 a17 a18 a19 a20 a21 a22 a23 a24 a25 a26 a27 a28 a29 a30 a31:Value} {R:Ending→World→Prop} (h:RB k w E A W) (hR:∀ X,RB k w 140 p X→R (.returned (.tuple #[.agg (ecl ze zs),.int .i64 140,.int .i64 p])) X) :
  Leaves Tryz.prog Tryz.f32 #[a0,a1,a2,a3,.pointer (some ⟨k,0,none⟩),.pointer (some ⟨k + 1,0,none⟩),.pointer (some ⟨k + 1 + 1,0,none⟩),a7,a8,a9,a10,a11,a12,a13,a14,a15,a16,a17,a18,a19,a20,a21,a22,a23,a24,a25,a26,a27,a28,a29,a30,a31] R [{target:=.fn (.func 68) #[.pointer (some ⟨k + 1,0,none⟩),.pointer (some ⟨k + 1 + 1,0,none⟩)],args:=#[]}] (.panicking (pw p)) W:=by
 obtain ⟨_,c1,c2⟩:True∧W.cell? ⟨k + 1,0,none⟩=some (.int .i64 E)∧W.cell? ⟨k + 1 + 1,0,none⟩=some (.int .i64 A):=by
  obtain ⟨_,_,_,_,_,_,_,_,_,_,_,_,_,c1,c2⟩:=h.cells
  exact ⟨trivial,c1,c2⟩
 obtain ⟨_,f1,f2⟩:=h.frz
 unfold pw
 refine leaves_cons (f:=68) (args:=#[.pointer (some ⟨k + 1,0,none⟩),.pointer (some ⟨k + 1 + 1,0,none⟩)]) (by simp) (by simp [go_sem]) ?_
 refine (rcatch_pan (k + 1) (k + 1 + 1) _ _ [] _ c1 f1 c2 f2 (by omega) p).mono ?_
 rintro e u' w'' ⟨rfl,rfl,rfl⟩
 have RX:RB k w 140 p ((W.setCell ⟨k + 1,0,none⟩ (.int .i64 140)).setCell ⟨k + 1 + 1,0,none⟩ (.int .i64 p)):=by
  refine ⟨(h.bel.setCell (by show k≤k + 1;omega) _).setCell (by show k≤k + 1 + 1;omega) _,?_,?_,?_⟩
  ·rw [Below.heap_setCell _ _ _ _ (by show k≠k + 1 + 1;omega),Below.heap_setCell _ _ _ _ (by show k≠k + 1;omega)];exact h.ex
  ·rw [Below.heap_setCell _ _ _ _ (by show k + 1≠k + 1 + 1;omega),blkS h.e]
  ·rw [blkS (B:=k + 1 + 1) (v:=.int .i64 A) (T:=3) (by rw [Below.heap_setCell _ _ _ _ (by show k + 1 + 1≠k + 1;omega)];exact h.a)]
 have hr:=hR _ RX
 generalize World.setCell _ _ _=X at RX hr ⊢
 clear hR
 have q0:=RX.cells
 refine ⟨.tuple #[.agg (ecl ze zs),.int .i64 140,.int .i64 p],?_,hr⟩
 simp [results,Tryz.results32,go_sem,q0,ecl,ze,zs,lf,vz,vH,vhd,nilB]
theorem put13 {W:World} {k:Nat} {T:TypeId} {c0 c1 c2 c3 c4 c5 c6 c7 c8 c9 c10 c11 c12 d0 d1 d2 d3 d4 d5 d6 d7 d8 d9 d10 d11 d12:Value} (h0:W.heap[k]?=some (.cells #[c0,c1,c2,c3,c4,c5,c6,c7,c8,c9,c10,c11,c12] T (0,0))):(((((((((((((W.setCell ⟨k,0,none⟩ d0).setCell ⟨k,1,none⟩ d1).setCell ⟨k,2,none⟩ d2).setCell ⟨k,3,none⟩ d3).setCell ⟨k,4,none⟩ d4).setCell ⟨k,5,none⟩ d5).setCell ⟨k,6,none⟩ d6).setCell ⟨k,7,none⟩ d7).setCell ⟨k,8,none⟩ d8).setCell ⟨k,9,none⟩ d9).setCell ⟨k,10,none⟩ d10).setCell ⟨k,11,none⟩ d11).setCell ⟨k,12,none⟩ d12).heap[k]?=some (.cells #[d0,d1,d2,d3,d4,d5,d6,d7,d8,d9,d10,d11,d12] T (0,0)):=by
 have q0:=blkT h0 0 d0
 have q1:=blkT q0 1 d1
 have q2:=blkT q1 2 d2
 have q3:=blkT q2 3 d3
 have q4:=blkT q3 4 d4
 have q5:=blkT q4 5 d5
 have q6:=blkT q5 6 d6
 have q7:=blkT q6 7 d7
 have q8:=blkT q7 8 d8
 have q9:=blkT q8 9 d9
 have q10:=blkT q9 10 d10
 have q11:=blkT q10 11 d11
 have q12:=blkT q11 12 d12
 simp only [List.setIfInBounds_toArray,List.set_cons_zero,List.set_cons_succ] at q12
 exact q12
theorem ex_put {W:World} {k:Nat} {h h':Eh} {q q':Sl} (k0:Ex W k h' q'):Ex (((((((((((((W.setCell ⟨k,0,none⟩ (.int .i64 h.op)).setCell ⟨k,1,none⟩ (.string h.name)).setCell ⟨k,2,none⟩ (q.ns)).setCell ⟨k,3,none⟩ (q.ls)).setCell ⟨k,4,none⟩ (.int .i64 (vhd h.vn h.val).kind)).setCell ⟨k,5,none⟩ (.bool (vhd h.vn h.val).flag)).setCell ⟨k,6,none⟩ (.bool (vhd h.vn h.val).neg)).setCell ⟨k,7,none⟩ (.string (vhd h.vn h.val).dig)).setCell ⟨k,8,none⟩ (.int .i64 (vhd h.vn h.val).exp)).setCell ⟨k,9,none⟩ (.int .u64 (vhd h.vn h.val).bits)).setCell ⟨k,10,none⟩ (.string (vhd h.vn h.val).text)).setCell ⟨k,11,none⟩ (q.vs)).setCell ⟨k,12,none⟩ (q.vl)) k h q:=by
 have h1:=k0.at_
 unfold ecl at h1
 have h2:=put13 (d0:=.int .i64 h.op) (d1:=.string h.name) (d2:=q.ns) (d3:=q.ls) (d4:=.int .i64 (vhd h.vn h.val).kind) (d5:=.bool (vhd h.vn h.val).flag) (d6:=.bool (vhd h.vn h.val).neg) (d7:=.string (vhd h.vn h.val).dig) (d8:=.int .i64 (vhd h.vn h.val).exp) (d9:=.int .u64 (vhd h.vn h.val).bits) (d10:=.string (vhd h.vn h.val).text) (d11:=q.vs) (d12:=q.vl) h1
 exact ⟨h2⟩
set_option maxHeartbeats 4000000 in
set_option maxRecDepth 100000 in
theorem out_fine {k:Nat} {W:World} {a0 a1 a2 a3 a7 a8 a9 a10 a11 a12 a13 a14 a15 a16 a17 a18 a19 a20 a21 a22 a23 a24 a25 a26 a27 a28 a29 a30 a31:Value} {h:Eh} {b1 b4 b7 b10:Option Addr} {b2 b3 b5 b6 b8 b9 b11 b12:Nat} {R:Ending→World→Prop} (hx:Ex W k h ⟨.slice b1 b2 b3,.slice b4 b5 b6,.slice b7 b8 b9,.slice b10 b11 b12⟩) (c1:W.cell? ⟨k + 1,0,none⟩=some (.int .i64 0)) (c2:W.cell? ⟨k + 1 + 1,0,none⟩=some (.int .i64 0)) (hR:R (.returned (.tuple #[.agg (ecl h ⟨.slice b1 b2 b3,.slice b4 b5 b6,.slice b7 b8 b9,.slice b10 b11 b12⟩),.int .i64 0,.int .i64 0])) W) :
  Leaves Tryz.prog Tryz.f32 #[a0,a1,a2,a3,.pointer (some ⟨k,0,none⟩),.pointer (some ⟨k + 1,0,none⟩),.pointer (some ⟨k + 1 + 1,0,none⟩),a7,a8,a9,a10,a11,a12,a13,a14,a15,a16,a17,a18,a19,a20,a21,a22,a23,a24,a25,a26,a27,a28,a29,a30,a31] R [{target:=.fn (.func 68) #[.pointer (some ⟨k + 1,0,none⟩),.pointer (some ⟨k + 1 + 1,0,none⟩)],args:=#[]}] .returning W:=by
 refine leaves_cons (f:=68) (args:=#[.pointer (some ⟨k + 1,0,none⟩),.pointer (some ⟨k + 1 + 1,0,none⟩)]) (by simp) (by simp [go_sem]) ?_
 refine (rcatch_idle _ _ _).mono ?_
 rintro e u' w'' ⟨rfl,rfl,rfl⟩
 have q0:=hx.cells
 refine ⟨.tuple #[.agg (ecl h ⟨.slice b1 b2 b3,.slice b4 b5 b6,.slice b7 b8 b9,.slice b10 b11 b12⟩),.int .i64 0,.int .i64 0],?_,hR⟩
 simp [results,Tryz.results32,go_sem,q0,c1,c2,ecl]
set_option maxHeartbeats 4000000 in
set_option maxRecDepth 100000 in
theorem read_any (hP:ParseOk) (f:Nat) (hf:1025≤f) (s:ByteArray) (w:World) (g:Gg w) (gp:Gp w) (hz:s.size≤1000000):Calls Tryz.prog 32 #[.string s,.func (.func 33) #[] #[]] w fun e w'=>RdP (dp f + 1) w (rdR f (bl s)) e w':=by
 have hmf:∀ (fn:Fn) (first cap:Array Value) (w:World),(Instr.makeFunc fn first cap).run Tryz.prog w=.ok (.func fn first cap) w:=fun _ _ _ _=>rfl
 obtain ⟨W3,hW3⟩:∃ W3,W3=((w.alloc (.cells #[.int .i64 0,.string ⟨#[]⟩,.slice none 0 0,.slice none 0 0,.int .i64 0,.bool false,.bool false,.string ⟨#[]⟩,.int .i64 0,.int .u64 0,.string ⟨#[]⟩,.slice none 0 0,.slice none 0 0] 33)).alloc (.cells #[.int .i64 0] 34)).alloc (.cells #[.int .i64 0] 3):=⟨_,rfl⟩
 have B3:Hid (Below w.heap.size w W3):=by rw [hW3];exact below_al (below_al (below_al (Below.refl _ _)))
 have hs:=hide (scan_any hP s W3 (g.below B3.out (by have:=g.sz;omega)) hz)
 have hM:=hide (mapping_ok hP f)
 rw [hW3] at hs
 clear hP
 go_enter_defers Tryz.func32, Tryz.ntmps32
 go_wp2_with (go_at_call 67;refine Sto.out ?_)
 refine Sto.mk ?_
 refine (hs.out).mono ?_
 rw [←hW3]
 rintro e w1 ⟨v,rfl,hO,hb⟩
 have hsz3:W3.heap.size=w.heap.size + 3:=by rw [hW3];simp
 have Z3:Hid (Ex W3 w.heap.size ze zs):=((ze_new w).below (below_al (below_al (Below.refl _ _)))) |> fun h=>by rw [hW3];exact h
 have Z1:=hide (Z3.out.below hb)
 have e3:W3.heap[w.heap.size + 1]?=some (.cells #[.int .i64 0] 34 (0,0)):=by
  rw [hW3,Below.heap_alloc _ _ _ (by simp)]
  have:=heap_alloc_last (w.alloc (.cells #[.int .i64 0,.string ⟨#[]⟩,.slice none 0 0,.slice none 0 0,.int .i64 0,.bool false,.bool false,.string ⟨#[]⟩,.int .i64 0,.int .u64 0,.string ⟨#[]⟩,.slice none 0 0,.slice none 0 0] 33)) (.cells #[.int .i64 0] 34)
  rw [World.size_alloc] at this
  exact this
 have a3:W3.heap[w.heap.size + 1 + 1]?=some (.cells #[.int .i64 0] 3 (0,0)):=by
  rw [hW3]
  have:=heap_alloc_last ((w.alloc (.cells #[.int .i64 0,.string ⟨#[]⟩,.slice none 0 0,.slice none 0 0,.int .i64 0,.bool false,.bool false,.string ⟨#[]⟩,.int .i64 0,.int .u64 0,.string ⟨#[]⟩,.slice none 0 0,.slice none 0 0] 33)).alloc (.cells #[.int .i64 0] 34)) (.cells #[.int .i64 0] 3)
  rw [World.size_alloc,World.size_alloc] at this
  exact this
 have e1:Hid (w1.heap[w.heap.size + 1]?=some (.cells #[.int .i64 0] 34 (0,0))):=(hb.block _ (by omega)).trans e3
 have a1:Hid (w1.heap[w.heap.size + 1 + 1]?=some (.cells #[.int .i64 0] 3 (0,0))):=(hb.block _ (by omega)).trans a3
 have ce:w1.cell? ⟨w.heap.size + 1,0,none⟩=some (.int .i64 0):=by unfold World.cell?;rw [e1.out];rfl
 have fe:w1.frozen? ⟨w.heap.size + 1,0,none⟩=false:=by unfold World.frozen?;rw [e1.out];rfl
 have ca:w1.cell? ⟨w.heap.size + 1 + 1,0,none⟩=some (.int .i64 0):=by unfold World.cell?;rw [a1.out];rfl
 have fa:w1.frozen? ⟨w.heap.size + 1 + 1,0,none⟩=false:=by unfold World.frozen?;rw [a1.out];rfl
 have B1:=hide (B3.out.trans (hb.mono (by omega)))
 have hsz1:w.heap.size + 3≤w1.heap.size:=by have:=hb.size;omega
 have hO1:=hide hO
 have hrd:Hid (∀ e w',RdP (dp f + 1) w (if (scR (bl s)).1=0 then rdO (endR (mpgT (stp f) ((scR (bl s)).2.2++[⟨0,[],(bl s).length⟩]))) else .inl ((scR (bl s)).1,(scR (bl s)).2.1)) e w'→RdP (dp f + 1) w (rdR f (bl s)) e w'):=fun e w' h=>h
 obtain ⟨a,c,hv⟩:=hO.shape
 have hlen:=scR_cnt (bl s)
 have hkk:=hide (scR_ok (bl s))
 obtain ⟨E,hE⟩:∃ E,(scR (bl s)).1=E:=⟨_,rfl⟩
 obtain ⟨A,hA⟩:∃ A,(scR (bl s)).2.1=A:=⟨_,rfl⟩
 obtain ⟨ts,hts⟩:∃ ts,(scR (bl s)).2.2=ts:=⟨_,rfl⟩
 rw [hE,hA,hts] at hrd
 rw [hE,hts] at hkk
 rw [hts] at hlen hO1 hv
 rw [hE,hA]
 subst hv
 have k0:=Z1.out.cells
 have z0:=Z1.out.frz
 unfold ze zs lf at k0
 simp only [vz,vhd,nilB] at k0
 clear hb hO e3 a3 hs hE hA hts hW3 Z3 B3
 by_cases h0:E=0
 ·subst h0
  obtain ⟨hl1,hl2,hok⟩:=hkk.out rfl
  have HOK:=hide (hok ((bl s).length:Nat))
  rw [bl_length] at hl2 HOK
  have R2:∀ W2,W2=(w1.setCell ⟨w.heap.size + 1,0,none⟩ (.int .i64 (0:Nat))).setCell ⟨w.heap.size + 1 + 1,0,none⟩ (.int .i64 (A:Nat))→RB w.heap.size w (0:Nat) (A:Nat) W2∧OT W2 (w.heap.size + 3) (.slice a ts.length c) ts∧W2.heap.size=w1.heap.size:=by
   intro W2 hW2
   refine ⟨⟨?_,?_,?_,?_⟩,?_,by rw [hW2];simp⟩
   ·rw [hW2];exact (B1.out.setCell (by show w.heap.size≤w.heap.size + 1;omega) _).setCell (by show w.heap.size≤w.heap.size + 1 + 1;omega) _
   ·rw [hW2,Below.heap_setCell _ _ _ _ (by show w.heap.size≠w.heap.size + 1 + 1;omega),Below.heap_setCell _ _ _ _ (by show w.heap.size≠w.heap.size + 1;omega)];exact Z1.out.at_
   ·rw [hW2,Below.heap_setCell _ _ _ _ (by show w.heap.size + 1≠w.heap.size + 1 + 1;omega),blkS e1.out]
   ·rw [hW2,blkS (B:=w.heap.size + 1 + 1) (v:=.int .i64 0) (T:=3) (by rw [Below.heap_setCell _ _ _ _ (by show w.heap.size + 1 + 1≠w.heap.size + 1;omega)];exact a1.out)]
   ·have hO:=hO1.out
    rw [hsz3] at hO
    refine ownsRow_of hO fun k hk hb=>?_
    have:=(World.ownsRow.lt hO k hk).1
    rw [hW2,Below.heap_setCell _ _ _ _ (by show k≠w.heap.size + 1 + 1;omega),Below.heap_setCell _ _ _ _ (by show k≠w.heap.size + 1;omega)]
  have R2H:=hide R2
  clear R2 Z1 e1 a1 B1 hO1
  go_wp2_with (go_at_call 69;refine Sto.out ?_)
  refine Sto.mk ?_
  have R3:=R2H.out _ rfl
  rw [Int.ofNat_zero] at R3
  generalize hW2:World.setCell _ _ _=W2 at R3 ⊢
  obtain ⟨RB2,OT2,hsz2⟩:=R3
  refine (over_any OT2 (by omega) s.size (by omega) (by omega)).mono ?_
  rintro e w3 ⟨rfl,hb3,hT3⟩
  have RB3:=RB2.low hb3
  obtain ⟨B,hB⟩:∃ B,W2.heap.size=B:=⟨_,rfl⟩
  have hB3:=hide hb3.size
  rw [hB] at hT3 hB3 ⊢
  have hBB:=hide (show w.heap.size + 3≤B by omega)
  have T3:=hide (hT3 (.cells #[.func (.func 123) #[] #[.pointer (some ⟨B,0,none⟩)],.func (.func 124) #[] #[.pointer (some ⟨B,0,none⟩)]] 104))
  have RB4:=hide (RB3.low (W1:=w3.alloc (.cells #[.func (.func 123) #[] #[.pointer (some ⟨B,0,none⟩)],.func (.func 124) #[] #[.pointer (some ⟨B,0,none⟩)]] 104)) ((below_al (Below.refl w3.heap.size w3)).mono (by have:=hB3.out;have:=hBB.out;omega)))
  have gp4:=hide (gp.below RB4.out.bel)
  have hlo:=hide (show 15≤B by have:=g.sz;have:=hBB.out;omega)
  have LB4:=hide (lb_new w3 B)
  have hm4:=hide (hM.out _ B _ ⟨T3.out,HOK.out,gp4.out,hlo.out⟩ (by simp;omega))
  have hrd3:Hid (∀ e w',RdP (dp f + 1) w (rdO (endR (mpgT (stp f) (ts++[⟨0,[],(s.size:Nat)⟩])))) e w'→RdP (dp f + 1) w (rdR f (bl s)) e w'):=fun e w' h=>hrd.out e w' (by simp only [if_true,bl_length];exact h)
  clear hrd
  generalize hR:mpgT (stp f) _=R at hm4 hrd3
  clear hW2 RB2 RB3 OT2 hb3 hT3 R2H ce fe ca fa k0 z0 hsz2
  have hsf:∀ (a:Addr) (w:World) (fn:Fn) (first cap:Array Value),(store a (.func fn first cap)).run Tryz.prog w=stored Tryz.prog w a (.func fn first cap) .plain:=fun a w fn f c=>run_store Tryz.prog w a _ .plain rfl
  unfold lv at hm4 ⊢
  go_wp2_with (go_at_call 33;refine Sto.out ?_)
  refine Sto.mk ?_
  refine hm4.out.mono ?_
  rcases R with p|x
  ·rintro e w5 ⟨hb5,rfl⟩
   refine out_wrong (RB4.out.low (hb5.low (by have:=hB3.out;simp;omega) |> fun h=>h.mono hBB.out)) fun X hX=>?_
   exact hrd3.out _ _ ⟨hX.bel,rfl⟩
  rintro e w5 ⟨hb5,q,rfl,hk5,hq5⟩
  obtain ⟨x,l2⟩:=x
  have ok2:Hid (Okl l2):=hide ((mpg_nx (stp_nx f)) _ _ HOK.out hR).1
  have RB5:=hide (RB4.out.low (hb5.low (by have:=hB3.out;simp;omega) |> fun h=>h.mono hBB.out))
  have LB5:=hide (LB4.out.fb hb5 (by have:=T3.out.sz;rw [World.size_alloc] at this;omega))
  have K5:=hide hk5
  obtain ⟨b1,b2,b3,b4,b5,b6,b7,b8,b9,b10,b11,b12,hqs⟩:=hk5.rd.shape
  subst hqs
  have Q5:=hide hq5
  have S5:=hide hb5.size
  have kL0:∀ o,(w5.alloc o).cell? ⟨w3.heap.size,0,none⟩=some (.func (.func 123) #[] #[.pointer (some ⟨B,0,none⟩)]):=fun o=>(LB5.out.below (below_al (Below.refl _ _))).cells.1
  have kL1:∀ o,(w5.alloc o).cell? ⟨w3.heap.size,1,none⟩=some (.func (.func 124) #[] #[.pointer (some ⟨B,0,none⟩)]):=fun o=>(LB5.out.below (below_al (Below.refl _ _))).cells.2
  have T6:=hide (show B<w3.heap.size by have:=T3.out.sz;rw [World.size_alloc] at this;omega)
  clear hb5 hq5 hk5 hm4 T3 RB4 gp4 LB4
  obtain ⟨t,l3,rfl⟩:=ok2.out.cons
  have hend:Hid (∀ w',Below w5.heap.size w5 w'→Calls Tryz.prog 70 #[lv B] w' fun e w''=>WP B w' (endT t l3) e w''):=hide fun w' hb=>end_any (Q5.out.below hb)
  unfold lv at hend
  unfold ecl
  go_wp2_with (go_at_call 70;refine Sto.out ?_)
  refine Sto.mk ?_
  refine (hend.out _ (below_al (Below.refl _ _))).mono ?_
  rintro e w6 ⟨hb6,he⟩
  have hz5:=S5.out
  simp only [World.size_alloc] at hz5
  have RB6:=hide ((RB5.out.low ((below_al (Below.refl w5.heap.size w5)).mono (by have:=hB3.out;have:=hBB.out;omega))).low (hb6.low (by simp;have:=hB3.out;omega) |> fun h=>h.mono hBB.out))
  have X6:=hide ((ex_new w5 (ehd (dp f + 1) x) ⟨.slice b1 b2 b3,.slice b4 b5 b6,.slice b7 b8 b9,.slice b10 b11 b12⟩).fb hb6 (by have:=hB3.out;omega))
  have K6:=hide ((K5.out.al (o:=.cells (ecl (ehd (dp f + 1) x) ⟨.slice b1 b2 b3,.slice b4 b5 b6,.slice b7 b8 b9,.slice b10 b11 b12⟩) 33)).fb hb6 (by simp;have:=T6.out;omega))
  by_cases htw:t.w=0
  ·have e1:endT t l3=.inr (t :: l3):=by simp [endT,htw]
   rw [e1] at he
   obtain ⟨rfl,_⟩:=he
   have x0:=X6.out.cells
   have k0:=RB6.out.cells
   obtain ⟨z0,z1,z2⟩:=RB6.out.frz
   clear hend ok2 hR e1
   go_wp2_with fail
   have ex1:=ex_put (h:=ehd (dp f + 1) x) (q:=⟨.slice b1 b2 b3,.slice b4 b5 b6,.slice b7 b8 b9,.slice b10 b11 b12⟩) (⟨RB6.out.ex⟩:Ex w6 w.heap.size ze zs)
   simp only [] at ex1
   have e6:=RB6.out.e
   have a6:=RB6.out.a
   have hK:∀ X,Below w.heap.size w X→KE (dp f + 1) X x ⟨.slice b1 b2 b3,.slice b4 b5 b6,.slice b7 b8 b9,.slice b10 b11 b12⟩ w.heap.size X.heap.size→RdP (dp f + 1) w (rdR f (bl s)) (.returned (.tuple #[.agg (ecl (ehd (dp f + 1) x) ⟨.slice b1 b2 b3,.slice b4 b5 b6,.slice b7 b8 b9,.slice b10 b11 b12⟩),.int .i64 0,.int .i64 0])) X:=fun X h1 h2=>hrd3.out _ _ (by simp only [endR,htw,if_true,rdO];exact ⟨h1,_,rfl,h2⟩)
   clear x0 k0 z0 z1 z2 hrd3
   generalize hY:World.setCell (World.setCell (World.setCell (World.setCell (World.setCell (World.setCell (World.setCell (World.setCell (World.setCell (World.setCell (World.setCell (World.setCell (World.setCell w6 _ _) _ _) _ _) _ _) _ _) _ _) _ _) _ _) _ _) _ _) _ _) _ _) _ _=Y at ex1 ⊢
   have bY:Below w.heap.size w6 Y:=by
    rw [←hY]
    iterate 13 (refine Below.setCell ?_ (show w.heap.size≤w.heap.size from Nat.le_refl _) _)
    exact Below.refl _ _
   have kY:∀ j,j≠w.heap.size→Y.heap[j]?=w6.heap[j]?:=fun j hj=>by
    rw [←hY]
    iterate 13 (rw [Below.heap_setCell _ _ _ _ (by show j≠w.heap.size;exact hj)])
   have sY:Y.heap.size=w6.heap.size:=by rw [←hY];simp
   clear hY
   refine out_fine (h:=ehd (dp f + 1) x) ?_ ?_ ?_ (hK _ ?_ ?_)
   ·refine ⟨?_⟩
    rw [Below.heap_setCell _ _ _ _ (by show w.heap.size≠w.heap.size + 1 + 1;omega),Below.heap_setCell _ _ _ _ (by show w.heap.size≠w.heap.size + 1;omega)]
    exact ex1.at_
   ·refine (World.cell?_of_block (w:=Y.setCell ⟨w.heap.size + 1,0,none⟩ (.int .i64 0)) (Below.heap_setCell _ _ _ _ (by show w.heap.size + 1≠w.heap.size + 1 + 1;omega))).trans ?_
    unfold World.cell?
    rw [blkS ((kY _ (by omega)).trans e6)]
    rfl
   ·unfold World.cell?
    rw [blkS (B:=w.heap.size + 1 + 1) (v:=.int .i64 A) (T:=3) (by rw [Below.heap_setCell _ _ _ _ (by show w.heap.size + 1 + 1≠w.heap.size + 1;omega)];exact (kY _ (by omega)).trans a6)]
    rfl
   ·exact ((RB6.out.bel.trans bY).setCell (by show w.heap.size≤w.heap.size + 1;omega) _).setCell (by show w.heap.size≤w.heap.size + 1 + 1;omega) _
   ·have hs3:=hB3.out
    have hb1:=hBB.out
    have ht6:=T6.out
    have hw6:w5.heap.size + 1≤w6.heap.size:=by have:=hb6.size;simpa using this
    refine KE.fin (s:=w3.heap.size + 1) ((((K6.out.move (W1:=Y) (by omega) fun k h1 h2=>kY k (by simp only [World.size_alloc] at h1;omega)).set ?_).set ?_) |> fun h=>by simpa using h) (by omega)
    ·simp;omega
    ·simp;omega
  ·have e1:endT t l3=.inl t.p:=by simp [endT,htw]
   rw [e1] at he
   obtain rfl:=he
   refine out_wrong RB6.out fun X hX=>?_
   refine hrd3.out _ _ ?_
   simp only [endR,htw,if_false,rdO]
   exact ⟨hX.bel,rfl⟩
 ·have b0:((E:Int)==0)=false:=by simp;omega
  go_wp2_with fail
  obtain ⟨W2,hW2⟩:∃ W2,(w1.setCell ⟨w.heap.size + 1,0,none⟩ (.int .i64 (E:Nat))).setCell ⟨w.heap.size + 1 + 1,0,none⟩ (.int .i64 (A:Nat))=W2:=⟨_,rfl⟩
  have B2:Hid (Below w.heap.size w W2):=by rw [←hW2];exact (B1.out.setCell (by show w.heap.size≤w.heap.size + 1;omega) _).setCell (by show w.heap.size≤w.heap.size + 1 + 1;omega) _
  have Z2:Ex W2 w.heap.size ze zs:=⟨by rw [←hW2,Below.heap_setCell _ _ _ _ (by show w.heap.size≠w.heap.size + 1 + 1;omega),Below.heap_setCell _ _ _ _ (by show w.heap.size≠w.heap.size + 1;omega)];exact Z1.out.at_⟩
  have e2:W2.heap[w.heap.size + 1]?=some (.cells #[.int .i64 (E:Nat)] 34 (0,0)):=by
   rw [←hW2,Below.heap_setCell _ _ _ _ (by show w.heap.size + 1≠w.heap.size + 1 + 1;omega),blkS e1.out]
  have a2:W2.heap[w.heap.size + 1 + 1]?=some (.cells #[.int .i64 (A:Nat)] 3 (0,0)):=by
   rw [←hW2,blkS (B:=w.heap.size + 1 + 1) (v:=.int .i64 0) (T:=3) (by rw [Below.heap_setCell _ _ _ _ (by show w.heap.size + 1 + 1≠w.heap.size + 1;omega)];exact a1.out)]
  clear k0 z0 ce fe ca fa
  have R2:Hid (RB w.heap.size w (E:Nat) (A:Nat) W2):=⟨B2.out,Z2.at_,e2,a2⟩
  clear B2 Z2 e2 a2
  rw [hW2]
  clear hW2
  have k0:=R2.out.cells
  obtain ⟨z0,z1,z2⟩:=R2.out.frz
  go_region_held3 (fun W=>W.cell? ⟨w.heap.size,0,none⟩=some (.int .i64 0)∧W.cell? ⟨w.heap.size,1,none⟩=some (.string ⟨#[]⟩)∧W.cell? ⟨w.heap.size,2,none⟩=some (.slice none 0 0)∧W.cell? ⟨w.heap.size,3,none⟩=some (.slice none 0 0)∧W.cell? ⟨w.heap.size,4,none⟩=some (.int .i64 0)∧W.cell? ⟨w.heap.size,5,none⟩=some (.bool false)∧W.cell? ⟨w.heap.size,6,none⟩=some (.bool false)∧W.cell? ⟨w.heap.size,7,none⟩=some (.string ⟨#[]⟩)∧W.cell? ⟨w.heap.size,8,none⟩=some (.int .i64 0)∧W.cell? ⟨w.heap.size,9,none⟩=some (.int .u64 0)∧W.cell? ⟨w.heap.size,10,none⟩=some (.string ⟨#[]⟩)∧W.cell? ⟨w.heap.size,11,none⟩=some (.slice none 0 0)∧W.cell? ⟨w.heap.size,12,none⟩=some (.slice none 0 0)∧W.cell? ⟨w.heap.size + 1,0,none⟩=some (.int .i64 (E:Nat))∧W.cell? ⟨w.heap.size + 1 + 1,0,none⟩=some (.int .i64 (A:Nat))) (first|(refine RB.cells (w:=w) ?_;(repeat (first|with_reducible (exact R2.out)|with_reducible (refine RB.dr ?_)|with_reducible (refine RB.pa ?_)|with_reducible (refine RB.pe ?_)|with_reducible (refine RB.pz ?_))))) (first|fail)
  have KX:∀ X,RB w.heap.size w (E:Nat) (A:Nat) X→RdP (dp f + 1) w (rdR f (bl s)) (.returned (.tuple #[.agg (ecl ze zs),.int .i64 (E:Nat),.int .i64 (A:Nat)])) X:=fun X hX=>hrd.out _ _ (by rw [if_neg h0];exact ⟨hX.bel,rfl⟩)
  go_wp2_with fail
  generalize hX:World.drew _=X
  have RX:RB w.heap.size w (E:Nat) (A:Nat) X:=by
   rw [←hX]
   repeat (first|with_reducible (exact R2.out)|with_reducible (refine RB.dr ?_)|with_reducible (refine RB.pa ?_)|with_reducible (refine RB.pe ?_)|with_reducible (refine RB.pz ?_))
  refine ⟨.tuple #[.agg (ecl ze zs),.int .i64 (E:Nat),.int .i64 (A:Nat)],?_,KX X RX⟩
  clear hX k0 z0 z1 z2 R2 KX
  have q0:=RX.cells
  simp [results,Tryz.results32,go_sem,q0,ecl,ze,zs,lf,vz,vH,vhd,nilB]
end Lx
end Go.Proofs.YtgicnopppgnjjaaGreatDoor
namespace Go.Proofs.YtgicnopppgnjjaaGreatDoor
namespace Lx
open Go.RowKit
def prsO {n:Nat} (C:ET n→Int) (o:Sum (Int×Int) (ET n)):Sum (Int×Int) (ET n):=match o with
 | .inl y=>.inl y
 | .inr x=>if C x=0 then .inr x else .inl (2,0)
set_option maxHeartbeats 4000000 in
set_option maxRecDepth 100000 in
theorem parse_any (hP:ParseOk) (f:Nat) (hf:1025≤f) (s:ByteArray) (w:World) (g:Gg w) (gp:Gp w) (hz:s.size≤1000000) (C:ET (dp f + 1)→Int)
  (hE:∀ y,rdR f (bl s)=.inl y→y.1≠0)
  (hC:∀ (x:ET (dp f + 1)) (q:Sl) (W:World),rdR f (bl s)=.inr x→RE (dp f + 1) W x q→Below w.heap.size w W→Calls Tryz.prog 34 #[.agg (ecl (ehd (dp f + 1) x) q)] W fun e w'=>e=.returned (.int .i64 (C x))∧Below W.heap.size W w') :
  Calls Tryz.prog 9 #[.string s] w fun e w'=>RdP (dp f + 1) w (prsO C (rdR f (bl s))) e w':=by
 have H:=hide (fun o=>read_any hP f hf s (w.alloc o) (g.below (below_al (Below.refl w.heap.size w)) (by have:=g.sz;omega)) (gp.below (below_al (Below.refl _ _))) hz)
 have HC:=hide hC
 have HE:=hide hE
 clear hP g gp hC hE
 obtain ⟨R,hR⟩:∃ R,rdR f (bl s)=R:=⟨_,rfl⟩
 rw [hR] at H HC HE ⊢
 clear hR
 have hlt:w.heap.size<w.heap.size + 1:=Nat.lt_succ_self _
 go_enter Tryz.func9, Tryz.ntmps9
 go_wp2_with (go_at_call 32;refine Sto.out ?_)
 refine Sto.mk ?_
 refine (H.out _).mono ?_
 rcases R with ⟨er,p⟩|x
 ·rintro e w1 ⟨hb,rfl⟩
  have h0:=HE.out _ rfl
  simp only at h0
  have Z1:=hide (((ze_new w)).below hb)
  have B1:=hide (below_then (below_al (Below.refl _ _)) hb)
  have b0:(er==0)=false:=by simp [h0]
  have k0:=Z1.out.cells
  have z0:=Z1.out.frz
  have kl:=Z1.out.lt
  clear hb H HC HE
  unfold ecl ze zs lf at *
  simp only [vz,vhd,nilB] at *
  go_wp2_with fail
  have ex1:=ex_put (h:=ze) (q:=zs) Z1.out
  simp only [ze,zs,lf,vz,vhd,nilB,vH] at ex1
  generalize hY:World.setCell (World.setCell (World.setCell (World.setCell (World.setCell (World.setCell (World.setCell (World.setCell (World.setCell (World.setCell (World.setCell (World.setCell (World.setCell w1 _ _) _ _) _ _) _ _) _ _) _ _) _ _) _ _) _ _) _ _) _ _) _ _) _ _=Y at ex1 ⊢
  have bY:Below w.heap.size w1 Y:=by
   rw [←hY]
   iterate 13 (refine Below.setCell ?_ (show w.heap.size≤w.heap.size from Nat.le_refl _) _)
   exact Below.refl _ _
  clear hY k0 z0
  generalize hW:World.alloc Y _=X
  have xX:Ex X w.heap.size ze zs:=by rw [←hW];exact ex1.below (below_al (Below.refl _ _))
  have bX:Below w.heap.size w X:=by rw [←hW];exact (B1.out.trans bY).alloc (by have:=ex1.lt;omega) _
  clear hW
  have q0:=xX.cells
  unfold ze zs lf at q0
  simp only [vz,vhd,nilB] at q0
  refine bodyPost_ret (v:=.tuple #[.agg (ecl ze zs),.int .i64 er,.int .i64 p]) (by simp [results,Tryz.results9,go_sem,q0,ecl,ze,zs,lf,vz,vH,vhd,nilB]) rfl ⟨bX,rfl⟩
 ·rintro e w1 ⟨hb,q,rfl,hk⟩
  obtain ⟨b1,b2,b3,b4,b5,b6,b7,b8,b9,b10,b11,b12,hqs⟩:=hk.rd.shape
  subst hqs
  have Z1:=hide ((ze_new w).below hb)
  have B1:=hide (below_then (below_al (Below.refl _ _)) hb)
  have K1:=hide hk
  have hc:=hide (HC.out x _ (w1.alloc (.cells (ecl (ehd (dp f + 1) x) ⟨.slice b1 b2 b3,.slice b4 b5 b6,.slice b7 b8 b9,.slice b10 b11 b12⟩) 33)) rfl (hk.al.rd) (below_al B1.out))
  obtain ⟨c,hcx⟩:∃ c,C x=c:=⟨_,rfl⟩
  rw [hcx] at hc
  have HX:=hide hcx
  clear hb hk H HC HE hcx
  simp only [ecl] at hc ⊢
  go_wp2_with (go_at_call 34;refine Sto.out ?_)
  refine Sto.mk ?_
  refine hc.out.mono ?_
  rintro e w2 ⟨rfl,hb2⟩
  have Z2:=hide ((Z1.out.below (below_al (Below.refl _ _))).below hb2)
  have X2:=hide ((ex_new w1 (ehd (dp f + 1) x) ⟨.slice b1 b2 b3,.slice b4 b5 b6,.slice b7 b8 b9,.slice b10 b11 b12⟩).below hb2)
  have K2:=hide (K1.out.al.below hb2)
  have B2:=hide (below_then (below_al B1.out) hb2)
  clear hb2 hc
  have z0:=Z2.out.frz
  have k1:=X2.out.cells
  by_cases h0:c=0
  ·have k0:=Z2.out.cells
   subst h0
   go_wp2_with fail
   have ex1:=ex_put (h:=ehd (dp f + 1) x) (q:=⟨.slice b1 b2 b3,.slice b4 b5 b6,.slice b7 b8 b9,.slice b10 b11 b12⟩) Z2.out
   simp only [] at ex1
   generalize hY:World.setCell (World.setCell (World.setCell (World.setCell (World.setCell (World.setCell (World.setCell (World.setCell (World.setCell (World.setCell (World.setCell (World.setCell (World.setCell w2 _ _) _ _) _ _) _ _) _ _) _ _) _ _) _ _) _ _) _ _) _ _) _ _) _ _=Y at ex1 ⊢
   have bY:Below w.heap.size w2 Y:=by
    rw [←hY]
    iterate 13 (refine Below.setCell ?_ (show w.heap.size≤w.heap.size from Nat.le_refl _) _)
    exact Below.refl _ _
   have kY:∀ j,j≠w.heap.size→Y.heap[j]?=w2.heap[j]?:=fun j hj=>by
    rw [←hY]
    iterate 13 (rw [Below.heap_setCell _ _ _ _ (by show j≠w.heap.size;exact hj)])
   have sY:Y.heap.size=w2.heap.size:=by rw [←hY];simp
   clear hY k0 z0 k1
   have q0:=ex1.cells
   refine bodyPost_ret (v:=.tuple #[.agg (ecl (ehd (dp f + 1) x) ⟨.slice b1 b2 b3,.slice b4 b5 b6,.slice b7 b8 b9,.slice b10 b11 b12⟩),.int .i64 0,.int .i64 0]) (by simp [results,Tryz.results9,go_sem,q0,ecl]) rfl ?_
   simp only [prsO,HX.out,if_true]
   refine ⟨B2.out.trans bY,_,rfl,?_⟩
   have hz2:=K2.out.2.1
   exact KE.fin (K2.out.move (W1:=Y) (by omega) fun k h1 h2=>kY k (by simp only [World.size_alloc] at h1;omega)) (by simp only [World.size_alloc];omega)
  ·have b0:(c==0)=false:=by simp [h0]
   have k0:=Z2.out.cells
   unfold ze zs lf at k0
   simp only [vz,vhd,nilB] at k0
   clear k1
   go_wp2_with fail
   have ex1:=ex_put (h:=ze) (q:=zs) Z2.out
   simp only [ze,zs,lf,vz,vhd,nilB,vH] at ex1
   generalize hY:World.setCell (World.setCell (World.setCell (World.setCell (World.setCell (World.setCell (World.setCell (World.setCell (World.setCell (World.setCell (World.setCell (World.setCell (World.setCell w2 _ _) _ _) _ _) _ _) _ _) _ _) _ _) _ _) _ _) _ _) _ _) _ _) _ _=Y at ex1 ⊢
   have bY:Below w.heap.size w2 Y:=by
    rw [←hY]
    iterate 13 (refine Below.setCell ?_ (show w.heap.size≤w.heap.size from Nat.le_refl _) _)
    exact Below.refl _ _
   clear hY k0 z0
   have q0:=(show Ex Y w.heap.size ze zs from ex1).cells
   unfold ze zs lf at q0
   simp only [vz,vhd,nilB] at q0
   refine bodyPost_ret (v:=.tuple #[.agg (ecl ze zs),.int .i64 2,.int .i64 0]) (by simp [results,Tryz.results9,go_sem,q0,ecl,ze,zs,lf,vz,vH,vhd,nilB]) rfl ?_
   simp only [prsO,HX.out,h0,if_false]
   exact ⟨B2.out.trans bY,rfl⟩
end Lx
end Go.Proofs.YtgicnopppgnjjaaGreatDoor
namespace Go.Proofs.YtgicnopppgnjjaaGreatDoor
namespace Lx
open Go.RowKit
def bareV (h:Hd):Hd:={h with names:=[]}
def bareH (h:Eh):Eh:=⟨h.op,h.name,h.names,1,(bareV (vhd h.vn h.val),[])⟩
def bareN (d:Nd):Nd:=⟨bareH d.h,d.kids⟩
theorem last_at3 {W:World} {o:Obj} {i:Nat} (h:i=W.heap.size):(W.alloc o).heap[i]?=some o:=by subst h;exact heap_alloc_last _ _
theorem low_at3 {W:World} {o:Obj} {i:Nat} {c:Option Obj} (hi:i<W.heap.size) (h:W.heap[i]?=c):(W.alloc o).heap[i]?=c:=(Below.heap_alloc _ _ _ hi).trans h
theorem low_set3 {W:World} {i j k:Nat} {u:Value} {c:Option Obj} (hi:k≠i) (h:W.heap[k]?=c):(W.setCell ⟨i,j,none⟩ u).heap[k]?=c:=(Below.heap_setCell _ _ _ _ (by show k≠i;exact hi)).trans h
set_option maxHeartbeats 2000000 in
set_option maxRecDepth 100000 in
theorem renewed_any (v:Value) (l:List ByteArray) (w:World) (h:NL w v l) (hm:l.length≤200000):Calls Tryz.prog 117 #[v] w fun e w'=>∃ av c,e=.returned (.slice av l.length c)∧OwnS w' w.heap.size (.slice av l.length c) l∧Below w.heap.size w w':=by
 obtain ⟨a,c,rfl,h1,h2⟩:=h.len
 have H:=hide h
 clear h
 go_enter Tryz.func117, Tryz.ntmps117
 go_wp2_with (at_builtin;refine app_names rfl _ _ rfl rfl a _ c l rfl rfl H.out (by omega) ?_;intro av c' w1 ho1 hb1)
 go_ret
 exact ⟨_,_,rfl,ho1.out,hb1.out⟩
set_option maxHeartbeats 2000000 in
set_option maxRecDepth 100000 in
theorem bare_any (h:Hd) (a1:Option Addr) (n1 c1:Nat) (a2:Option Addr) (n2 c2:Nat) (w:World):Calls Tryz.prog 118 #[.agg (vals h (.slice a1 n1 c1) (.slice a2 n2 c2))] w fun e w'=>e=.returned (.agg (vals h (.slice none 0 0) (.slice none 0 0)))∧Below w.heap.size w w':=by
 unfold vals
 go_enter Tryz.func118, Tryz.ntmps118
 go_wp2_with fail
 refine bodyPost_ret (v:=.agg (vals h (.slice none 0 0) (.slice none 0 0))) (by simp [results,Tryz.results118,go_sem,vals]) rfl ⟨rfl,?_⟩
 exact below_al (below_al (Below.refl _ _))
set_option maxHeartbeats 6000000 in
set_option maxRecDepth 100000 in
theorem nodeOf_any (n:Nat) (x:ET n) (q:Sl) (w:World) (hr:RE n w x q) (hm:(ehd n x).names.length≤200000):Calls Tryz.prog 56 #[.agg (ecl (ehd n x) q)] w fun e w'=>∃ av c,e=.returned (.agg (ecl (bareH (ehd n x)) ⟨.slice av (ehd n x).names.length c,.slice none 0 0,.slice none 0 0,.slice none 0 0⟩))∧OwnS w' w.heap.size (.slice av (ehd n x).names.length c) (ehd n x).names∧Below w.heap.size w w':=by
 have hn:NL w q.ns (ehd n x).names:=by
  cases n with
  | zero=>exact Empty.elim x
  | succ n=>exact hr.1
 obtain ⟨x1,y1,z1,x2,y2,z2,x3,y3,z3,x4,y4,z4,hqs⟩:=hr.shape
 subst hqs
 clear hr
 obtain ⟨h,hh⟩:∃ h,ehd n x=h:=⟨_,rfl⟩
 rw [hh] at hn hm ⊢
 clear hh
 have R:=hide (fun W (hb:Below w.heap.size w W)=>renewed_any (.slice x1 y1 z1) h.names W (hn.below hb) hm)
 have Bv:=hide (fun W=>bare_any (vhd h.vn h.val) x3 y3 z3 x4 y4 z4 W)
 have X0:=hide (ex_new w h ⟨.slice x1 y1 z1,.slice x2 y2 z2,.slice x3 y3 z3,.slice x4 y4 z4⟩)
 have H0:Hid (((w.alloc (.cells (ecl h ⟨.slice x1 y1 z1,.slice x2 y2 z2,.slice x3 y3 z3,.slice x4 y4 z4⟩) 33)).alloc (.cells #[.int .i64 0,.string ⟨#[]⟩,.slice none 0 0,.slice none 0 0,.int .i64 0,.bool false,.bool false,.string ⟨#[]⟩,.int .i64 0,.int .u64 0,.string ⟨#[]⟩,.slice none 0 0,.slice none 0 0] 67)).drew.heap[w.heap.size]?=some (.cells (ecl h ⟨.slice x1 y1 z1,.slice x2 y2 z2,.slice x3 y3 z3,.slice x4 y4 z4⟩) 33 (0,0))):=low_at3 (by simp) (last_at3 rfl)
 clear hn hm X0
 unfold vals at Bv
 unfold ecl at H0 ⊢
 dsimp only at H0 ⊢
 obtain ⟨y,hy⟩:∃ y,vhd h.vn h.val=y:=⟨_,rfl⟩
 have hby:vhd (bareH h).vn (bareH h).val=bareV y:=by rw [←hy];rfl
 rw [hby]
 rw [hy] at Bv H0 ⊢
 clear hy hby
 go_enter Tryz.func56, Tryz.ntmps56
 go_wp2_with fail
 have E0:Hid (∀ W:World,W.heap[w.heap.size]?=some (.cells #[.int .i64 h.op,.string h.name,.slice x1 y1 z1,.slice x2 y2 z2,.int .i64 y.kind,.bool y.flag,.bool y.neg,.string y.dig,.int .i64 y.exp,.int .u64 y.bits,.string y.text,.slice x3 y3 z3,.slice x4 y4 z4] 33 (0,0))→W.cell? ⟨w.heap.size,0,none⟩=some (.int .i64 h.op)∧W.cell? ⟨w.heap.size,1,none⟩=some (.string h.name)∧W.cell? ⟨w.heap.size,2,none⟩=some (.slice x1 y1 z1)∧W.cell? ⟨w.heap.size,3,none⟩=some (.slice x2 y2 z2)∧W.cell? ⟨w.heap.size,4,none⟩=some (.int .i64 y.kind)∧W.cell? ⟨w.heap.size,5,none⟩=some (.bool y.flag)∧W.cell? ⟨w.heap.size,6,none⟩=some (.bool y.neg)∧W.cell? ⟨w.heap.size,7,none⟩=some (.string y.dig)∧W.cell? ⟨w.heap.size,8,none⟩=some (.int .i64 y.exp)∧W.cell? ⟨w.heap.size,9,none⟩=some (.int .u64 y.bits)∧W.cell? ⟨w.heap.size,10,none⟩=some (.string y.text)∧W.cell? ⟨w.heap.size,11,none⟩=some (.slice x3 y3 z3)∧W.cell? ⟨w.heap.size,12,none⟩=some (.slice x4 y4 z4)):=by
  intro W hW
  refine ⟨?_,?_,?_,?_,?_,?_,?_,?_,?_,?_,?_,?_,?_⟩
  iterate 13 (unfold World.cell?;rw [hW];rfl)
 have Z0:Hid (∀ W:World,W.heap[w.heap.size + 1]?=some (.cells #[.int .i64 0,.string ⟨#[]⟩,.slice none 0 0,.slice none 0 0,.int .i64 0,.bool false,.bool false,.string ⟨#[]⟩,.int .i64 0,.int .u64 0,.string ⟨#[]⟩,.slice none 0 0,.slice none 0 0] 67 (0,0))→(W.cell? ⟨w.heap.size + 1,0,none⟩=some (.int .i64 0)∧W.cell? ⟨w.heap.size + 1,1,none⟩=some (.string ⟨#[]⟩)∧W.cell? ⟨w.heap.size + 1,2,none⟩=some (.slice none 0 0)∧W.cell? ⟨w.heap.size + 1,3,none⟩=some (.slice none 0 0)∧W.cell? ⟨w.heap.size + 1,4,none⟩=some (.int .i64 0)∧W.cell? ⟨w.heap.size + 1,5,none⟩=some (.bool false)∧W.cell? ⟨w.heap.size + 1,6,none⟩=some (.bool false)∧W.cell? ⟨w.heap.size + 1,7,none⟩=some (.string ⟨#[]⟩)∧W.cell? ⟨w.heap.size + 1,8,none⟩=some (.int .i64 0)∧W.cell? ⟨w.heap.size + 1,9,none⟩=some (.int .u64 0)∧W.cell? ⟨w.heap.size + 1,10,none⟩=some (.string ⟨#[]⟩)∧W.cell? ⟨w.heap.size + 1,11,none⟩=some (.slice none 0 0)∧W.cell? ⟨w.heap.size + 1,12,none⟩=some (.slice none 0 0))∧∀ j,W.frozen? ⟨w.heap.size + 1,j,none⟩=false):=by
  intro W hW
  refine ⟨⟨?_,?_,?_,?_,?_,?_,?_,?_,?_,?_,?_,?_,?_⟩,fun j=>by simp [World.frozen?,hW]⟩
  iterate 13 (unfold World.cell?;rw [hW];rfl)
 have G0:Hid (((w.alloc (.cells #[.int .i64 h.op,.string h.name,.slice x1 y1 z1,.slice x2 y2 z2,.int .i64 y.kind,.bool y.flag,.bool y.neg,.string y.dig,.int .i64 y.exp,.int .u64 y.bits,.string y.text,.slice x3 y3 z3,.slice x4 y4 z4] 33)).alloc (.cells #[.int .i64 0,.string ⟨#[]⟩,.slice none 0 0,.slice none 0 0,.int .i64 0,.bool false,.bool false,.string ⟨#[]⟩,.int .i64 0,.int .u64 0,.string ⟨#[]⟩,.slice none 0 0,.slice none 0 0] 67)).drew.heap[w.heap.size + 1]?=some (.cells #[.int .i64 0,.string ⟨#[]⟩,.slice none 0 0,.slice none 0 0,.int .i64 0,.bool false,.bool false,.string ⟨#[]⟩,.int .i64 0,.int .u64 0,.string ⟨#[]⟩,.slice none 0 0,.slice none 0 0] 67 (0,0))):=last_at3 (by simp)
 go_region_held3 (fun W=>W.cell? ⟨w.heap.size,0,none⟩=some (.int .i64 h.op)∧W.cell? ⟨w.heap.size,1,none⟩=some (.string h.name)∧W.cell? ⟨w.heap.size,2,none⟩=some (.slice x1 y1 z1)∧W.cell? ⟨w.heap.size,3,none⟩=some (.slice x2 y2 z2)∧W.cell? ⟨w.heap.size,4,none⟩=some (.int .i64 y.kind)∧W.cell? ⟨w.heap.size,5,none⟩=some (.bool y.flag)∧W.cell? ⟨w.heap.size,6,none⟩=some (.bool y.neg)∧W.cell? ⟨w.heap.size,7,none⟩=some (.string y.dig)∧W.cell? ⟨w.heap.size,8,none⟩=some (.int .i64 y.exp)∧W.cell? ⟨w.heap.size,9,none⟩=some (.int .u64 y.bits)∧W.cell? ⟨w.heap.size,10,none⟩=some (.string y.text)∧W.cell? ⟨w.heap.size,11,none⟩=some (.slice x3 y3 z3)∧W.cell? ⟨w.heap.size,12,none⟩=some (.slice x4 y4 z4)) (first|(refine E0.out _ ?_;(repeat (first|with_reducible (exact H0.out)|with_reducible (exact H1.out)|with_reducible (exact H2.out)|with_reducible (refine low_set3 (by omega) ?_))))) (first|(go_at_call 117;refine (R.out _ (below_al (below_al (Below.refl _ _))).drew).mono ?_;rintro e w1 ⟨av,c,rfl,ho,hb1⟩;have O1:=hide ho;have B1:=hide hb1;have H1:=hide ((hb1.block _ (by simp;omega)).trans H0.out);have G1:=hide ((hb1.block _ (by simp)).trans G0.out);clear ho hb1)|(go_at_call 118;refine (Bv.out _).mono ?_;rintro e w2 ⟨rfl,hb2⟩;have B2:=hide hb2;have H2:=hide ((hb2.block _ (by have:=B1.out.size;simp at this;omega)).trans H1.out);have G2:=hide ((hb2.block _ (by have:=B1.out.size;simp at this;omega)).trans G1.out);have f2:=(Z0.out _ G2.out).2;have r2:=(Z0.out _ G2.out).1;clear hb2))
 go_wp2_with fail
 have p3:=put13 (d0:=.int .i64 h.op) (d1:=.string h.name) (d2:=.slice av h.names.length c) (d3:=.slice none 0 0) (d4:=.int .i64 y.kind) (d5:=.bool y.flag) (d6:=.bool y.neg) (d7:=.string y.dig) (d8:=.int .i64 y.exp) (d9:=.int .u64 y.bits) (d10:=.string y.text) (d11:=.slice none 0 0) (d12:=.slice none 0 0) G2.out
 generalize hY:World.setCell (World.setCell (World.setCell (World.setCell (World.setCell (World.setCell (World.setCell (World.setCell (World.setCell (World.setCell (World.setCell (World.setCell (World.setCell w2 _ _) _ _) _ _) _ _) _ _) _ _) _ _) _ _) _ _) _ _) _ _) _ _) _ _=Y at p3 ⊢
 have z1:w.heap.size + 2≤w1.heap.size:=by
  have:=B1.out.size
  simp at this
  omega
 have z2:=B2.out.size
 have bW:Below w.heap.size w w2:=(((below_al (below_al (Below.refl _ _))).drew).trans (B1.out.mono (by simp;omega))).trans (B2.out.mono (by omega))
 have bY:Below w.heap.size w Y:=by
  rw [←hY]
  iterate 13 (refine Below.setCell ?_ (by show w.heap.size≤w.heap.size + 1;omega) _)
  exact bW
 have oY:OwnS Y w.heap.size (.slice av h.names.length c) h.names:=by
  refine ownsRow_of (ownRow_mono O1.out (by simp;omega)) fun k hk hl=>?_
  have hkl:=(World.ownsRow.lt O1.out k hk).1
  simp at hkl
  rw [←hY]
  iterate 13 (rw [Below.heap_setCell _ _ _ _ (by show k≠w.heap.size + 1;omega)])
  exact B2.out.block k hl
 have y0:Y.cell? ⟨w.heap.size + 1,0,none⟩=some (.int .i64 h.op)∧Y.cell? ⟨w.heap.size + 1,1,none⟩=some (.string h.name)∧Y.cell? ⟨w.heap.size + 1,2,none⟩=some (.slice av h.names.length c)∧Y.cell? ⟨w.heap.size + 1,3,none⟩=some (.slice none 0 0)∧Y.cell? ⟨w.heap.size + 1,4,none⟩=some (.int .i64 y.kind)∧Y.cell? ⟨w.heap.size + 1,5,none⟩=some (.bool y.flag)∧Y.cell? ⟨w.heap.size + 1,6,none⟩=some (.bool y.neg)∧Y.cell? ⟨w.heap.size + 1,7,none⟩=some (.string y.dig)∧Y.cell? ⟨w.heap.size + 1,8,none⟩=some (.int .i64 y.exp)∧Y.cell? ⟨w.heap.size + 1,9,none⟩=some (.int .u64 y.bits)∧Y.cell? ⟨w.heap.size + 1,10,none⟩=some (.string y.text)∧Y.cell? ⟨w.heap.size + 1,11,none⟩=some (.slice none 0 0)∧Y.cell? ⟨w.heap.size + 1,12,none⟩=some (.slice none 0 0):=by
  refine ⟨?_,?_,?_,?_,?_,?_,?_,?_,?_,?_,?_,?_,?_⟩
  iterate 13 (unfold World.cell?;rw [p3];rfl)
 clear hY r2 f2 H0 H1 H2 G0 G1 G2
 refine bodyPost_ret (v:=.agg #[.int .i64 h.op,.string h.name,.slice av h.names.length c,.slice none 0 0,.int .i64 y.kind,.bool y.flag,.bool y.neg,.string y.dig,.int .i64 y.exp,.int .u64 y.bits,.string y.text,.slice none 0 0,.slice none 0 0]) (by simp [results,Tryz.results56,go_sem,y0]) rfl ⟨av,c,rfl,oY,bY⟩
end Lx
end Go.Proofs.YtgicnopppgnjjaaGreatDoor
namespace Go.Proofs.YtgicnopppgnjjaaGreatDoor
namespace Lx
open Go.RowKit
section
variable {w : World} {ops : Array Oper} {rest : List Oper} {o : Oper} {a : Act} {Q : Exit → Act → World → Prop}
theorem app_nd (hgd:o.guard=none) (s x:Operand) (ho:o.op=.call {callee:=.builtin .append,args:=#[s,x],argTypes:=#[53,53]})
  (B:Nat) (v:Value) (n:Nat) (xs:List Value) (hs:a.eval s=v) (hown:w.ownsRow B 67 13 v n xs) (g c:Nat) (hx:a.eval x=.slice (some ⟨g,0,none⟩) 1 c) (hd:Eh) (q:Sl) (h1:q.ns.oneCell'=true) (h2:q.ls.oneCell'=true) (h3:q.vs.oneCell'=true) (h4:q.vl.oneCell'=true)
  (hnews:w.rangeAt g 0 (ecl hd q).toList) (hm:n≤200000) (hB:B≤w.heap.size)
  (h:∀ av c' w',Hid (w'.ownsRow B 67 13 (.slice av (n + 1) c') (n + 1) (xs++(ecl hd q).toList))→Hid (w.grownBy w' v.ownBlock)→Hid ((Value.slice av (n + 1) c').ownBlock=v.ownBlock∨(Value.slice av (n + 1) c').ownBlock=some w.heap.size)→wpList Tryz.prog ops Q rest (a.put o.dst (.slice av (n + 1) c')) w'):wpList Tryz.prog ops Q (o :: rest) a w:=by
 obtain ⟨i0,hi,hz0,hz1,hz2⟩:=info_parts infoNd
 refine wpList_append_own_at w hgd s x 53 ho B 67 i0 _ 13 192 Tryz.underlying53 hi hz0 hz1 hz2 rfl (by decide) v n xs hs hown ⟨g,0,none⟩ 1 c (ecl hd q).toList hx rfl ?_ ?_ ?_ ?_ hB ?_
 ·intro j u hj
  have:=hnews j u hj
  rw [show (⟨g,0,none⟩:Addr).add j=⟨g,0 + j,none⟩ by unfold Addr.add;split <;> simp_all]
  exact this
 ·intro u hu
  simp only [ecl,List.mem_cons,List.not_mem_nil,or_false] at hu
  rcases hu with rfl|rfl|rfl|rfl|rfl|rfl|rfl|rfl|rfl|rfl|rfl|rfl|rfl
  all_goals first|rfl|exact h1|exact h2|exact h3|exact h4
 ·unfold maxLen;omega
 ·omega
 ·intro v' w' h1 h2 h3 h4
  rcases h1.2 with ⟨rfl,e⟩|⟨g',cap,cur,rfl,_⟩
  ·omega
  ·exact h _ _ w' h1 h2 h4
theorem app_z (hgd:o.guard=none) (s x:Operand) (ho:o.op=.call {callee:=.builtin .append,args:=#[s,x],argTypes:=#[65,65]})
  (B:Nat) (v:Value) (l:List Int) (hs:a.eval s=v) (hown:OwnZ w B v l) (g c:Nat) (hx:a.eval x=.slice (some ⟨g,0,none⟩) 1 c) (t:Int)
  (hnews:w.cell? ⟨g,0,none⟩=some (.int .i64 t)) (hm:l.length≤200000) (hB:B≤w.heap.size)
  (h:∀ av c' w',Hid (OwnZ w' B (.slice av (l.length + 1) c') (l++[t]))→Hid (w.grownBy w' v.ownBlock)→Hid ((Value.slice av (l.length + 1) c').ownBlock=v.ownBlock∨(Value.slice av (l.length + 1) c').ownBlock=some w.heap.size)→wpList Tryz.prog ops Q rest (a.put o.dst (.slice av (l.length + 1) c')) w'):wpList Tryz.prog ops Q (o :: rest) a w:=by
 obtain ⟨i0,hi,hz0,hz1,hz2⟩:=info_parts infoZ
 refine wpList_append_own_at w hgd s x 65 ho B 3 i0 _ 1 8 Tryz.underlying65 hi hz0 hz1 hz2 rfl (by decide) v l.length (zcs l) hs hown ⟨g,0,none⟩ 1 c [.int .i64 t] hx rfl ?_ (by simp [Value.oneCell']) (by unfold maxLen;omega) (by omega) hB ?_
 ·intro j u hj
  have h0:j=0:=by have:=(List.getElem?_eq_some_iff.1 hj).1;simpa using this
  subst h0
  cases hj
  exact hnews
 ·intro v' w' h1 h2 h3 h4
  rcases h1.2 with ⟨rfl,e⟩|⟨g',cap,cur,rfl,_⟩
  ·omega
  ·refine h _ _ w' ?_ h2 h4
   show OwnZ _ _ _ _
   unfold OwnZ
   rw [List.length_append,zcs_app]
   exact h1
end
theorem step_nd {ops:Array Oper} {o:Oper} {a:Act} {W:World} {K:Act→World→Prop} {Q:Exit→Act→World→Prop} {E:Prop} (hgd:o.guard=none) (s x:Operand) (ho:o.op=.call {callee:=.builtin .append,args:=#[s,x],argTypes:=#[53,53]})
  (B:Nat) (v:Value) (n:Nat) (xs:List Value) (hs:a.eval s=v) (hown:W.ownsRow B 67 13 v n xs) (g c:Nat) (hx:a.eval x=.slice (some ⟨g,0,none⟩) 1 c) (hd:Eh) (q:Sl) (h1:q.ns.oneCell'=true) (h2:q.ls.oneCell'=true) (h3:q.vs.oneCell'=true) (h4:q.vl.oneCell'=true)
  (hnews:W.rangeAt g 0 (ecl hd q).toList) (hm:n≤200000) (hB:B≤W.heap.size)
  (h:∀ av c' w',Hid (w'.ownsRow B 67 13 (.slice av (n + 1) c') (n + 1) (xs++(ecl hd q).toList))→Hid (W.grownBy w' v.ownBlock)→Hid ((Value.slice av (n + 1) c').ownBlock=v.ownBlock∨(Value.slice av (n + 1) c').ownBlock=some W.heap.size)→K (a.put o.dst (.slice av (n + 1) c')) w') :
  if Region.wanted o (yielded ops a.tmps)=true then Oper.wp Tryz.prog o a W K Q else E:=by
 have hw:Region.wanted o (yielded ops a.tmps)=true:=by simp [Region.wanted,hgd]
 rw [if_pos hw]
 obtain ⟨i0,hi,hz0,hz1,hz2⟩:=info_parts infoNd
 obtain ⟨v',w',hr,r1,r2,r3,r4⟩:=run_append_own_at (P:=Tryz.prog) W B 53 o.type 67 i0 _ 13 192 Tryz.underlying53 hi hz0 hz1 hz2 rfl (by decide) v n xs hown ⟨g,0,none⟩ 1 c (ecl hd q).toList rfl (by
  intro j u hj
  have:=hnews j u hj
  rw [show (⟨g,0,none⟩:Addr).add j=⟨g,0 + j,none⟩ by unfold Addr.add;split <;> simp_all]
  exact this) (by
  intro u hu
  simp only [ecl,List.mem_cons,List.not_mem_nil,or_false] at hu
  rcases hu with rfl|rfl|rfl|rfl|rfl|rfl|rfl|rfl|rfl|rfl|rfl|rfl|rfl
  all_goals first|rfl|exact h1|exact h2|exact h3|exact h4) (by unfold maxLen;omega) (by omega) hB
 unfold Oper.wp execOp
 simp only [ho,resolve,invoke,builtin,Sem.run_bind,Sem.run_pure,Result.andThen_ok,List.map_toArray,List.map_cons,List.map_nil,hs,hx,hr]
 rcases r1.2 with ⟨rfl,e⟩|⟨g',cap,cur,rfl,_⟩
 ·omega
 ·exact h _ _ w' r1 r2 r4
theorem step_z {ops:Array Oper} {o:Oper} {a:Act} {W:World} {K:Act→World→Prop} {Q:Exit→Act→World→Prop} {E:Prop} (hgd:o.guard=none) (s x:Operand) (ho:o.op=.call {callee:=.builtin .append,args:=#[s,x],argTypes:=#[65,65]})
  (B:Nat) (v:Value) (l:List Int) (hs:a.eval s=v) (hown:OwnZ W B v l) (g c:Nat) (hx:a.eval x=.slice (some ⟨g,0,none⟩) 1 c) (t:Int)
  (hnews:W.cell? ⟨g,0,none⟩=some (.int .i64 t)) (hm:l.length≤200000) (hB:B≤W.heap.size)
  (h:∀ av c' w',Hid (OwnZ w' B (.slice av (l.length + 1) c') (l++[t]))→Hid (W.grownBy w' v.ownBlock)→Hid ((Value.slice av (l.length + 1) c').ownBlock=v.ownBlock∨(Value.slice av (l.length + 1) c').ownBlock=some W.heap.size)→K (a.put o.dst (.slice av (l.length + 1) c')) w') :
  if Region.wanted o (yielded ops a.tmps)=true then Oper.wp Tryz.prog o a W K Q else E:=by
 have hw:Region.wanted o (yielded ops a.tmps)=true:=by simp [Region.wanted,hgd]
 rw [if_pos hw]
 obtain ⟨i0,hi,hz0,hz1,hz2⟩:=info_parts infoZ
 obtain ⟨v',w',hr,r1,r2,r3,r4⟩:=run_append_own_at (P:=Tryz.prog) W B 65 o.type 3 i0 _ 1 8 Tryz.underlying65 hi hz0 hz1 hz2 rfl (by decide) v l.length (zcs l) hown ⟨g,0,none⟩ 1 c [.int .i64 t] rfl (by
  intro j u hj
  have h0:j=0:=by have:=(List.getElem?_eq_some_iff.1 hj).1;simpa using this
  subst h0
  cases hj
  exact hnews) (by simp [Value.oneCell']) (by unfold maxLen;omega) (by omega) hB
 unfold Oper.wp execOp
 simp only [ho,resolve,invoke,builtin,Sem.run_bind,Sem.run_pure,Result.andThen_ok,List.map_toArray,List.map_cons,List.map_nil,hs,hx,hr]
 rcases r1.2 with ⟨rfl,e⟩|⟨g',cap,cur,rfl,_⟩
 ·omega
 ·refine h _ _ w' ?_ r2 r4
  show OwnZ _ _ _ _
  unfold OwnZ
  rw [List.length_append,zcs_app]
  exact r1
section
variable {B : Nat} {row row' : Option Nat} {a b c : World}
theorem FL.of (h:Below a.heap.size a b):FL B row a b:=⟨h.os,h.tape,h.output,h.size,fun k hk _ _=>h.block k hk⟩
theorem FL.trans (h:FL B row a b) (k:FL B row' b c) (hr:∀ g,row'=some g→row=some g∨a.heap.size≤g):FL B row a c :=
 ⟨k.os.trans h.os,k.tape.trans h.tape,k.output.trans h.output,Nat.le_trans h.size k.size,fun i hi hn hw=>(k.blk i (Nat.lt_of_lt_of_le hi h.size) hn (fun e=>by rcases hr i e with q|q;exact hw q;omega)).trans (h.blk i hi hn hw)⟩
theorem FL.grown (h:FL B row a b) (hg:b.grownBy c row') (hr:∀ g,row'=some g→row=some g∨a.heap.size≤g):FL B row a c :=
 ⟨hg.os.trans h.os,hg.tape.trans h.tape,hg.output.trans h.output,Nat.le_trans h.size hg.size,fun i hi hn hw=>(hg.block i (Nat.lt_of_lt_of_le hi h.size) (fun e=>by rcases hr i e.symm with q|q;exact hw q;omega)).trans (h.blk i hi hn hw)⟩
theorem FL.set {i o:Nat} {u:Value} (h:FL B row a b) (hi:i=B∨row=some i∨a.heap.size≤i):FL B row a (b.setCell ⟨i,o,none⟩ u) :=
 ⟨h.os,h.tape,h.output,by simpa using h.size,fun k hk hn hw=>(Below.heap_setCell _ _ _ _ (by show k≠i;rintro rfl;rcases hi with q|q|q;exact hn q;exact hw q;omega)).trans (h.blk k hk hn hw)⟩
theorem FL.low {n:Nat} (h:FL B row a b) (hn:n≤a.heap.size) (hB:n≤B) (hr:∀ g,row=some g→n≤g):Below n a b:=⟨h.os,h.tape,h.output,h.size,fun k hk=>h.blk k (by omega) (by omega) (fun e=>by have:=hr k e;omega)⟩
end
end Lx
end Go.Proofs.YtgicnopppgnjjaaGreatDoor
