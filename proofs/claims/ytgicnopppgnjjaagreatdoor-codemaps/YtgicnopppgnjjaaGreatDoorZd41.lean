/- Merged by program: PdRec, PeLike, PfFill, CoComp, PpCopyE, CoOrder. -/
import Derived.Test.YtgicnopppgnjjaaGreatDoorZd37
import Derived.Test.YtgicnopppgnjjaaGreatDoorZd39
import Derived.Test.YtgicnopppgnjjaaGreatDoorZd29
import Derived.Test.YtgicnopppgnjjaaGreatDoorZd19
import Derived.Test.YtgicnopppgnjjaaGreatDoorZd40
import Derived.Test.YtgicnopppgnjjaaGreatDoorZd32
import Derived.Test.YtgicnopppgnjjaaGreatDoorZd17
import Derived.Test.YtgicnopppgnjjaaGreatDoorZd28
import Derived.Deep.OwnRows
set_option linter.unusedSimpArgs false
set_option linter.unusedVariables false
namespace Go.Proofs.YtgicnopppgnjjaaGreatDoor
namespace Lx
open Go.RowKit
structure LR (k:Nat) (w:World) (h:Eh) (q:Sl) (W:World):Prop where
 bel:Below k w W
 ex:W.heap[k]?=some (.cells (ecl h q) 33 (0,0))
 rs:W.heap[k + 1]?=some (.cells (nc9 0).toArray 31 (0,0))
 nl:W.heap[k + 1 + 1]?=some (.cells (nc9 1).toArray 31 (0,0))
structure LS (k:Nat) (h:Eh) (q:Sl) (W:World):Prop where
 ex:W.heap[k]?=some (.cells (ecl h q) 33 (0,0))
 nl:W.heap[k + 1 + 1]?=some (.cells (nc9 1).toArray 31 (0,0))
section
variable {k : Nat} {w W : World} {h : Eh} {q : Sl}
theorem LR.dr (H:LR k w h q W):LR k w h q W.drew:=⟨H.bel.drew,H.ex,H.rs,H.nl⟩
theorem LR.low {W1:World} (H:LR k w h q W) (hb:Below (k + 3) W W1):LR k w h q W1:=⟨H.bel.trans (hb.mono (by omega)),(hb.block _ (by omega)).trans H.ex,(hb.block _ (by omega)).trans H.rs,(hb.block _ (by omega)).trans H.nl⟩
theorem LR.al {o:Obj} (H:LR k w h q W):LR k w h q (W.alloc o):=by
 have hz:k + 1 + 1<W.heap.size:=(Array.getElem?_eq_some_iff.1 H.nl).1
 exact H.low ((below_al (Below.refl W.heap.size W)).mono (by omega))
theorem LR.ls (H:LR k w h q W):LS k h q W:=⟨H.ex,H.nl⟩
theorem LS.dr (H:LS k h q W):LS k h q W.drew:=⟨H.ex,H.nl⟩
theorem LS.al {o:Obj} (H:LS k h q W):LS k h q (W.alloc o):=⟨(Below.heap_alloc _ _ _ (Array.getElem?_eq_some_iff.1 H.ex).1).trans H.ex,(Below.heap_alloc _ _ _ (Array.getElem?_eq_some_iff.1 H.nl).1).trans H.nl⟩
theorem LS.set {j:Nat} {u:Value} (H:LS k h q W):LS k h q (W.setCell ⟨k + 1,j,none⟩ u):=⟨(Below.heap_setCell _ _ _ _ (by show k≠k + 1;omega)).trans H.ex,(Below.heap_setCell _ _ _ _ (by show k + 1 + 1≠k + 1;omega)).trans H.nl⟩
theorem LS.cells (H:LS k h q W):W.cell? ⟨k,2,none⟩=some q.ns∧W.cell? ⟨k,3,none⟩=some q.ls∧W.cell? ⟨k + 1 + 1,0,none⟩=some (.int .i64 1)∧W.cell? ⟨k + 1 + 1,1,none⟩=some (.bool false)∧W.cell? ⟨k + 1 + 1,2,none⟩=some (.bool false)∧W.cell? ⟨k + 1 + 1,3,none⟩=some (.string ⟨#[]⟩)∧W.cell? ⟨k + 1 + 1,4,none⟩=some (.int .i64 0)∧W.cell? ⟨k + 1 + 1,5,none⟩=some (.int .u64 0)∧W.cell? ⟨k + 1 + 1,6,none⟩=some (.string ⟨#[]⟩)∧W.cell? ⟨k + 1 + 1,7,none⟩=some (.slice none 0 0)∧W.cell? ⟨k + 1 + 1,8,none⟩=some (.slice none 0 0):=by
 obtain ⟨_,_,c2,c3,_⟩:=(show Ex W k h q from ⟨H.ex⟩).cells
 refine ⟨c2,c3,?_,?_,?_,?_,?_,?_,?_,?_,?_⟩
 iterate 9 (unfold World.cell?;rw [H.nl];rfl)
theorem LR.res (H:LR k w h q W):W.cell? ⟨k + 1,0,none⟩=some (.int .i64 0)∧W.cell? ⟨k + 1,1,none⟩=some (.bool false)∧W.cell? ⟨k + 1,2,none⟩=some (.bool false)∧W.cell? ⟨k + 1,3,none⟩=some (.string ⟨#[]⟩)∧W.cell? ⟨k + 1,4,none⟩=some (.int .i64 0)∧W.cell? ⟨k + 1,5,none⟩=some (.int .u64 0)∧W.cell? ⟨k + 1,6,none⟩=some (.string ⟨#[]⟩)∧W.cell? ⟨k + 1,7,none⟩=some (.slice none 0 0)∧W.cell? ⟨k + 1,8,none⟩=some (.slice none 0 0):=by
 refine ⟨?_,?_,?_,?_,?_,?_,?_,?_,?_⟩
 iterate 9 (unfold World.cell?;rw [H.rs];rfl)
theorem LR.frz (H:LR k w h q W):∀ j,W.frozen? ⟨k + 1,j,none⟩=false:=fun j=>by
 have:=H.rs
 simp [World.frozen?,this]
end
theorem last_at2 {W:World} {o:Obj} {i:Nat} (h:i=W.heap.size):(W.alloc o).heap[i]?=some o:=by subst h;exact heap_alloc_last _ _
theorem low_at2 {W:World} {o:Obj} {i:Nat} {c:Option Obj} (hi:i<W.heap.size) (h:W.heap[i]?=c):(W.alloc o).heap[i]?=c:=(Below.heap_alloc _ _ _ hi).trans h
theorem lr_new (w:World) (h:Eh) (q:Sl):LR w.heap.size w h q (((w.alloc (.cells (ecl h q) 33)).alloc (.cells (nc9 0).toArray 31)).alloc (.cells (nc9 1).toArray 31)) :=
 ⟨below_al (below_al (below_al (Below.refl _ _))),low_at2 (by simp;omega) (low_at2 (by simp) (last_at2 rfl)),low_at2 (by simp) (last_at2 (by simp)),last_at2 (by simp)⟩
theorem put9 {W:World} {k:Nat} {T:TypeId} {c0 c1 c2 c3 c4 c5 c6 c7 c8 d0 d1 d2 d3 d4 d5 d6 d7 d8:Value} (h0:W.heap[k]?=some (.cells #[c0,c1,c2,c3,c4,c5,c6,c7,c8] T (0,0))):(((((((((W.setCell ⟨k,0,none⟩ d0).setCell ⟨k,1,none⟩ d1).setCell ⟨k,2,none⟩ d2).setCell ⟨k,3,none⟩ d3).setCell ⟨k,4,none⟩ d4).setCell ⟨k,5,none⟩ d5).setCell ⟨k,6,none⟩ d6).setCell ⟨k,7,none⟩ d7).setCell ⟨k,8,none⟩ d8).heap[k]?=some (.cells #[d0,d1,d2,d3,d4,d5,d6,d7,d8] T (0,0)):=by
 have q0:=blkT h0 0 d0
 have q1:=blkT q0 1 d1
 have q2:=blkT q1 2 d2
 have q3:=blkT q2 3 d3
 have q4:=blkT q3 4 d4
 have q5:=blkT q4 5 d5
 have q6:=blkT q5 6 d6
 have q7:=blkT q6 7 d7
 have q8:=blkT q7 8 d8
 simp only [List.setIfInBounds_toArray,List.set_cons_zero,List.set_cons_succ] at q8
 exact q8
theorem nul_at {W:World} {i:Nat} (h:W.heap[i]?=some (.cells (nc9 1).toArray 31 (0,0))):∀ j v,(nc9 1)[j]?=some v→W.cell? ⟨i,0 + j,none⟩=some v:=by
 intro j v hj
 unfold World.cell?
 rw [h]
 simpa using hj
set_option maxHeartbeats 4000000 in
set_option maxRecDepth 100000 in
theorem like_rec (k:Int) (hk:k=3∨k=6) (n:Nat) (nm:ByteArray) (nms:List ByteArray) (vn:Nat) (val:VT vn) (l:List (ET n)) (q:Sl) (w:World) (hl:l.length≤100000) (hr:RE (n + 1) w (⟨k,nm,nms,vn,val⟩,l) q) :
  Calls Tryz.prog 135 #[.agg (ecl ⟨k,nm,nms,vn,val⟩ q)] w fun e w'=>∃ g,e=.returned (.agg (lk9 8 ⟨#[]⟩ q.ns (.slice (some ⟨g,0,none⟩) l.length l.length)))∧w'.heap[g]?=some (.cells (rpt l.length (nc9 1)).toArray 31 (0,0))∧w.heap.size≤g∧Below w.heap.size w w':=by
 obtain ⟨al,cl,hle,hc1,hc2⟩:=hr.tl.len
 obtain ⟨x1,y1,z1,x2,y2,z2,x3,y3,z3,x4,y4,z4,hqs⟩:=hr.shape
 subst hqs
 obtain ⟨rfl,rfl,rfl⟩:=Value.slice.inj hle
 clear hle hr hc1 hc2
 simp only
 obtain ⟨N,hN⟩:∃ N,l.length=N:=⟨_,rfl⟩
 rw [hN] at hl ⊢
 clear hN
 have hrep:=hide (fun (W:World) (h:∀ j v,(nc9 1)[j]?=some v→W.cell? ⟨w.heap.size + 1 + 1 + 1,0 + j,none⟩=some v) (hb:w.heap.size + 1 + 1 + 1<W.heap.size)=>repeat_any (c:=1) N hl h hb)
 have L0:=hide (lr_new w ⟨k,nm,nms,vn,val⟩ ⟨.slice x1 y1 z1,.slice x2 N z2,.slice x3 y3 z3,.slice x4 y4 z4⟩)
 unfold ecl at L0 ⊢
 unfold nc9 at L0
 simp only [] at L0 ⊢
 rcases hk with rfl|rfl
 ·go_enter Tryz.func135, Tryz.ntmps135
  go_wp2_with fail
  have c0:=L0.out.ls.cells
  simp only [] at c0
  go_region_held3 (fun W=>W.cell? ⟨w.heap.size,2,none⟩=some (.slice x1 y1 z1)∧W.cell? ⟨w.heap.size,3,none⟩=some (.slice x2 N z2)∧W.cell? ⟨w.heap.size + 1 + 1,0,none⟩=some (.int .i64 1)∧W.cell? ⟨w.heap.size + 1 + 1,1,none⟩=some (.bool false)∧W.cell? ⟨w.heap.size + 1 + 1,2,none⟩=some (.bool false)∧W.cell? ⟨w.heap.size + 1 + 1,3,none⟩=some (.string ⟨#[]⟩)∧W.cell? ⟨w.heap.size + 1 + 1,4,none⟩=some (.int .i64 0)∧W.cell? ⟨w.heap.size + 1 + 1,5,none⟩=some (.int .u64 0)∧W.cell? ⟨w.heap.size + 1 + 1,6,none⟩=some (.string ⟨#[]⟩)∧W.cell? ⟨w.heap.size + 1 + 1,7,none⟩=some (.slice none 0 0)∧W.cell? ⟨w.heap.size + 1 + 1,8,none⟩=some (.slice none 0 0)) (first|(refine LS.cells (h:=⟨3,nm,nms,vn,val⟩) (q:=⟨.slice x1 y1 z1,.slice x2 N z2,.slice x3 y3 z3,.slice x4 y4 z4⟩) ?_;(repeat (first|with_reducible (exact L0.out.ls)|with_reducible (exact L3.out.ls)|with_reducible (refine LS.dr ?_)|with_reducible (refine LS.al ?_)|with_reducible (refine LS.set ?_))))) (first|(go_at_call 174;refine (hrep.out _ (nul_at (show (World.drew _).heap[_]?=_ from last_at2 (by simp))) (by simp)).mono ?_;rintro e w3 ⟨rfl,h1,h2⟩;have L3:=hide (L0.out.al.dr.low (h2.mono (by simp)));have f3:=L3.out.frz;have r3:=L3.out.res;have H1:=hide h1;have H2:=hide h2;clear h1 h2))
  clear c0
  go_wp2_with fail
  have p3:=put9 (d0:=.int .i64 8) (d1:=.bool false) (d2:=.bool false) (d3:=.string ⟨#[]⟩) (d4:=.int .i64 0) (d5:=.int .u64 0) (d6:=.string ⟨#[]⟩) (d7:=.slice x1 y1 z1) (d8:=.slice (some ⟨w.heap.size + 1 + 1 + 1 + 1,0,none⟩) N N) L3.out.rs
  have hz3:w.heap.size + 1 + 1 + 1 + 1≤w3.heap.size:=by have:=H2.out.size;simpa using this
  generalize hY:World.setCell (World.setCell (World.setCell (World.setCell (World.setCell (World.setCell (World.setCell (World.setCell (World.setCell w3 _ _) _ _) _ _) _ _) _ _) _ _) _ _) _ _) _ _=Y at p3 ⊢
  have bY:Below w.heap.size w Y:=by
   rw [←hY]
   iterate 9 (refine Below.setCell ?_ (by show w.heap.size≤w.heap.size + 1;omega) _)
   exact L3.out.bel
  have gY:Y.heap[w.heap.size + 1 + 1 + 1 + 1]?=some (.cells (rpt N (nc9 1)).toArray 31 (0,0)):=by
   rw [←hY]
   iterate 9 (rw [Below.heap_setCell _ _ _ _ (by show w.heap.size + 1 + 1 + 1 + 1≠w.heap.size + 1;omega)])
   have:=H1.out
   simpa using this
  clear hY r3 f3 H1 H2 L3
  have y0:Y.cell? ⟨w.heap.size + 1,0,none⟩=some (.int .i64 8)∧Y.cell? ⟨w.heap.size + 1,1,none⟩=some (.bool false)∧Y.cell? ⟨w.heap.size + 1,2,none⟩=some (.bool false)∧Y.cell? ⟨w.heap.size + 1,3,none⟩=some (.string ⟨#[]⟩)∧Y.cell? ⟨w.heap.size + 1,4,none⟩=some (.int .i64 0)∧Y.cell? ⟨w.heap.size + 1,5,none⟩=some (.int .u64 0)∧Y.cell? ⟨w.heap.size + 1,6,none⟩=some (.string ⟨#[]⟩)∧Y.cell? ⟨w.heap.size + 1,7,none⟩=some (.slice x1 y1 z1)∧Y.cell? ⟨w.heap.size + 1,8,none⟩=some (.slice (some ⟨w.heap.size + 1 + 1 + 1 + 1,0,none⟩) N N):=by
   refine ⟨?_,?_,?_,?_,?_,?_,?_,?_,?_⟩
   iterate 9 (unfold World.cell?;rw [p3];rfl)
  refine bodyPost_ret (v:=.agg (lk9 8 ⟨#[]⟩ (.slice x1 y1 z1) (.slice (some ⟨w.heap.size + 1 + 1 + 1 + 1,0,none⟩) N N))) (by simp [results,Tryz.results135,go_sem,lk9,y0]) rfl ⟨_,rfl,gY,by omega,bY⟩
 ·go_enter Tryz.func135, Tryz.ntmps135
  go_wp2_with fail
  have c0:=L0.out.ls.cells
  simp only [] at c0
  go_region_held3 (fun W=>W.cell? ⟨w.heap.size,2,none⟩=some (.slice x1 y1 z1)∧W.cell? ⟨w.heap.size,3,none⟩=some (.slice x2 N z2)∧W.cell? ⟨w.heap.size + 1 + 1,0,none⟩=some (.int .i64 1)∧W.cell? ⟨w.heap.size + 1 + 1,1,none⟩=some (.bool false)∧W.cell? ⟨w.heap.size + 1 + 1,2,none⟩=some (.bool false)∧W.cell? ⟨w.heap.size + 1 + 1,3,none⟩=some (.string ⟨#[]⟩)∧W.cell? ⟨w.heap.size + 1 + 1,4,none⟩=some (.int .i64 0)∧W.cell? ⟨w.heap.size + 1 + 1,5,none⟩=some (.int .u64 0)∧W.cell? ⟨w.heap.size + 1 + 1,6,none⟩=some (.string ⟨#[]⟩)∧W.cell? ⟨w.heap.size + 1 + 1,7,none⟩=some (.slice none 0 0)∧W.cell? ⟨w.heap.size + 1 + 1,8,none⟩=some (.slice none 0 0)) (first|(refine LS.cells (h:=⟨6,nm,nms,vn,val⟩) (q:=⟨.slice x1 y1 z1,.slice x2 N z2,.slice x3 y3 z3,.slice x4 y4 z4⟩) ?_;(repeat (first|with_reducible (exact L0.out.ls)|with_reducible (exact L3.out.ls)|with_reducible (refine LS.dr ?_)|with_reducible (refine LS.al ?_)|with_reducible (refine LS.set ?_))))) (first|(go_at_call 174;refine (hrep.out _ (nul_at (show (World.drew _).heap[_]?=_ from last_at2 (by simp))) (by simp)).mono ?_;rintro e w3 ⟨rfl,h1,h2⟩;have L3:=hide (L0.out.al.dr.low (h2.mono (by simp)));have f3:=L3.out.frz;have r3:=L3.out.res;have H1:=hide h1;have H2:=hide h2;clear h1 h2))
  clear c0
  go_wp2_with fail
  have p3:=put9 (d0:=.int .i64 8) (d1:=.bool false) (d2:=.bool false) (d3:=.string ⟨#[]⟩) (d4:=.int .i64 0) (d5:=.int .u64 0) (d6:=.string ⟨#[]⟩) (d7:=.slice x1 y1 z1) (d8:=.slice (some ⟨w.heap.size + 1 + 1 + 1 + 1,0,none⟩) N N) L3.out.rs
  have hz3:w.heap.size + 1 + 1 + 1 + 1≤w3.heap.size:=by have:=H2.out.size;simpa using this
  generalize hY:World.setCell (World.setCell (World.setCell (World.setCell (World.setCell (World.setCell (World.setCell (World.setCell (World.setCell w3 _ _) _ _) _ _) _ _) _ _) _ _) _ _) _ _) _ _=Y at p3 ⊢
  have bY:Below w.heap.size w Y:=by
   rw [←hY]
   iterate 9 (refine Below.setCell ?_ (by show w.heap.size≤w.heap.size + 1;omega) _)
   exact L3.out.bel
  have gY:Y.heap[w.heap.size + 1 + 1 + 1 + 1]?=some (.cells (rpt N (nc9 1)).toArray 31 (0,0)):=by
   rw [←hY]
   iterate 9 (rw [Below.heap_setCell _ _ _ _ (by show w.heap.size + 1 + 1 + 1 + 1≠w.heap.size + 1;omega)])
   have:=H1.out
   simpa using this
  clear hY r3 f3 H1 H2 L3
  have y0:Y.cell? ⟨w.heap.size + 1,0,none⟩=some (.int .i64 8)∧Y.cell? ⟨w.heap.size + 1,1,none⟩=some (.bool false)∧Y.cell? ⟨w.heap.size + 1,2,none⟩=some (.bool false)∧Y.cell? ⟨w.heap.size + 1,3,none⟩=some (.string ⟨#[]⟩)∧Y.cell? ⟨w.heap.size + 1,4,none⟩=some (.int .i64 0)∧Y.cell? ⟨w.heap.size + 1,5,none⟩=some (.int .u64 0)∧Y.cell? ⟨w.heap.size + 1,6,none⟩=some (.string ⟨#[]⟩)∧Y.cell? ⟨w.heap.size + 1,7,none⟩=some (.slice x1 y1 z1)∧Y.cell? ⟨w.heap.size + 1,8,none⟩=some (.slice (some ⟨w.heap.size + 1 + 1 + 1 + 1,0,none⟩) N N):=by
   refine ⟨?_,?_,?_,?_,?_,?_,?_,?_,?_⟩
   iterate 9 (unfold World.cell?;rw [p3];rfl)
  refine bodyPost_ret (v:=.agg (lk9 8 ⟨#[]⟩ (.slice x1 y1 z1) (.slice (some ⟨w.heap.size + 1 + 1 + 1 + 1,0,none⟩) N N))) (by simp [results,Tryz.results135,go_sem,lk9,y0]) rfl ⟨_,rfl,gY,by omega,bY⟩
end Lx
end Go.Proofs.YtgicnopppgnjjaaGreatDoor
namespace Go.Proofs.YtgicnopppgnjjaaGreatDoor
namespace Lx
open Go.RowKit
def vn1:VT 1:=vH 1 false false nilB 0 nilB
def hdL (k:Int) (t:ByteArray) (ns:List ByteArray):Hd:=⟨k,false,false,nilB,0,0,t,ns⟩
def lkV (h:Eh) (m:Nat):(n:Nat)×VT n :=
 if h.op=2∨h.op=5 then ⟨2,(hdL 9 h.name [],List.replicate 1 vn1)⟩
 else if h.op=3∨h.op=6 then ⟨2,(hdL 8 nilB h.names,List.replicate m vn1)⟩
 else if h.op=7 then ⟨h.vn,h.val⟩ else ⟨1,vn1⟩
theorem rd_vn1 (W:World):RD 1 W vn1 (.slice none 0 0) (.slice none 0 0):=⟨Or.inl ⟨rfl,rfl⟩,Or.inl ⟨rfl,rfl⟩⟩
theorem rpt_get {N i r:Nat} {c:List Value} {v:Value} (hi:i<N) (h:c[r]?=some v):(rpt N c)[i * c.length + r]?=some v:=by
 obtain ⟨k,rfl⟩:∃ k,N=i + (1 + k):=⟨N - i - 1,by omega⟩
 rw [rpt_add,rpt_add]
 rw [List.getElem?_append_right (by rw [rpt_len];omega),rpt_len,Nat.add_sub_cancel_left]
 have hr:=(List.getElem?_eq_some_iff.1 h).1
 have e1:rpt 1 c=c:=by simp [rpt]
 rw [e1,List.getElem?_append_left hr]
 exact h
theorem rd_nulls {W:World} {g N:Nat} {h:Hd} {ns:Value} (hg:W.heap[g]?=some (.cells (rpt N (nc9 1)).toArray 31 (0,0))) (hN:N≤maxLen) (hn:NL W ns h.names):RD 2 W ((h,List.replicate N vn1):VT 2) ns (.slice (some ⟨g,0,none⟩) N N):=by
 have hlt:=(Array.getElem?_eq_some_iff.1 hg).1
 refine ⟨hn,Or.inr ⟨g,0,N,none,by simp,by simp,hN,fun _=>⟨rfl,hlt⟩,fun i hi=>?_⟩⟩
 simp only [List.length_replicate] at hi
 simp only [List.getElem_replicate]
 refine ⟨.slice none 0 0,.slice none 0 0,fun j v hj=>?_,rd_vn1 W⟩
 have h9:(nc9 1)[j]?=some v:=hj
 unfold World.cell?
 rw [hg]
 have:=rpt_get hi h9
 rw [show (nc9 1).length=9 from rfl] at this
 simpa using this
def elen:(n:Nat)→ET n→Nat
 | 0,_=>0
 | _ + 1,x=>x.2.length
def LkP (h:Eh) (m:Nat) (w:World) (e:Ending) (w':World):Prop:=∃ ns ls,e=.returned (.agg (vals (vhd _ (lkV h m).2) ns ls))∧RD _ w' (lkV h m).2 ns ls∧Below w.heap.size w w'
theorem like_any (n:Nat) (x:ET n) (q:Sl) (w:World) (hr:RE n w x q) (hg:GE n x):Calls Tryz.prog 135 #[.agg (ecl (ehd n x) q)] w fun e w'=>LkP (ehd n x) (elen n x) w e w':=by
 cases n with
 | zero=>exact Empty.elim x
 | succ n =>
  obtain ⟨⟨k,nm,nms,vn,val⟩,l⟩:=x
  show Calls _ _ #[.agg (ecl ⟨k,nm,nms,vn,val⟩ q)] _ fun e w'=>LkP ⟨k,nm,nms,vn,val⟩ l.length w e w'
  unfold LkP
  by_cases h2:k=2∨k=5
  ·have e:lkV ⟨k,nm,nms,vn,val⟩ l.length=⟨2,(hdL 9 nm [],List.replicate 1 vn1)⟩:=by simp [lkV,h2]
   rw [e]
   refine (like_tag k h2 n nm nms vn val l q w hr).mono ?_
   rintro e w1 ⟨g,rfl,hg1,hg2,hb⟩
   exact ⟨.slice none 0 0,_,rfl,rd_nulls (by simpa [rpt] using hg1) (by decide) (Or.inl ⟨rfl,rfl⟩),hb⟩
  ·by_cases h3:k=3∨k=6
   ·have e:lkV ⟨k,nm,nms,vn,val⟩ l.length=⟨2,(hdL 8 nilB nms,List.replicate l.length vn1)⟩:=by simp [lkV,h2,h3]
    rw [e]
    have hl:l.length≤100000:=hg.2.1
    refine (like_rec k h3 n nm nms vn val l q w hl hr).mono ?_
    rintro e w1 ⟨g,rfl,hg1,hg2,hb⟩
    exact ⟨q.ns,_,rfl,rd_nulls hg1 (by unfold maxLen;omega) (hr.1.below hb),hb⟩
   ·by_cases h7:k=7
    ·have e:lkV ⟨k,nm,nms,vn,val⟩ l.length=⟨vn,val⟩:=by simp [lkV,h7]
     rw [e]
     subst h7
     refine (like_val n nm nms vn val l q w hr).mono ?_
     rintro e w1 ⟨rfl,hb⟩
     exact ⟨q.vs,q.vl,rfl,hr.2.1.below hb,hb⟩
    ·have e:lkV ⟨k,nm,nms,vn,val⟩ l.length=⟨1,vn1⟩:=by simp [lkV,h2,h3,h7]
     rw [e]
     refine (like_null k ⟨fun e=>h2 (Or.inl e),fun e=>h2 (Or.inr e),fun e=>h3 (Or.inl e),fun e=>h3 (Or.inr e),h7⟩ n nm nms vn val l q w hr).mono ?_
     rintro e w1 ⟨rfl,hb⟩
     exact ⟨.slice none 0 0,.slice none 0 0,rfl,rd_vn1 w1,hb⟩
theorem siz_nulls (h:Hd) (m:Nat):siz 2 ((h,List.replicate m vn1):VT 2)=1 + m:=by
 show 1 + suml ((List.replicate m vn1).map (siz 1))=1 + m
 induction m with
 | zero=>rfl
 | succ m ih=>rw [List.replicate_succ,List.map_cons,suml,show siz 1 vn1=1 from rfl];omega
theorem sz_nulls (h:Hd) (m:Nat) (h1:h.text.size≤281474976710656) (h2:h.dig.size≤281474976710656) (h3:h.names.length≤281474976710656) (h4:∀ s∈h.names,s.size≤281474976710656):Sz 2 ((h,List.replicate m vn1):VT 2):=by
 refine ⟨h1,h2,h3,h4,fun y hy=>?_⟩
 rw [List.eq_of_mem_replicate hy]
 exact (vh_z 1 false false nilB 0 nilB nil_z nil_z).1
theorem lk_ready {n:Nat} {x:ET n} {w:World} {ns ls:Value} (hg:GE n x) (hr:RD _ w (lkV (ehd n x) (elen n x)).2 ns ls):Rdy _ w (lkV (ehd n x) (elen n x)).2 ns ls:=by
 cases n with
 | zero=>exact Empty.elim x
 | succ n =>
  obtain ⟨⟨k,nm,nms,vn,val⟩,l⟩:=x
  obtain ⟨⟨g1,g2,g3,g4,g5⟩,hl,_⟩:=hg
  simp only at g1 g2 g3 g4 g5 hl
  have key:Sz _ (lkV ⟨k,nm,nms,vn,val⟩ l.length).2∧siz _ (lkV ⟨k,nm,nms,vn,val⟩ l.length).2≤200000:=by
   by_cases h2:k=2∨k=5
   ·have e:lkV ⟨k,nm,nms,vn,val⟩ l.length=⟨2,(hdL 9 nm [],List.replicate 1 vn1)⟩:=by simp [lkV,h2]
    rw [e]
    exact ⟨sz_nulls _ _ g1 nil_z (Nat.zero_le _) (fun s hs=>absurd hs (by simp [hdL])),by rw [siz_nulls];omega⟩
   ·by_cases h3:k=3∨k=6
    ·have e:lkV ⟨k,nm,nms,vn,val⟩ l.length=⟨2,(hdL 8 nilB nms,List.replicate l.length vn1)⟩:=by simp [lkV,h2,h3]
     rw [e]
     exact ⟨sz_nulls _ _ nil_z nil_z (by show nms.length≤_;omega) g3,by rw [siz_nulls];omega⟩
    ·by_cases h7:k=7
     ·have e:lkV ⟨k,nm,nms,vn,val⟩ l.length=⟨vn,val⟩:=by simp [lkV,h7]
      rw [e]
      exact ⟨g4,g5⟩
     ·have e:lkV ⟨k,nm,nms,vn,val⟩ l.length=⟨1,vn1⟩:=by simp [lkV,h2,h3,h7]
      rw [e]
      exact vh_z 1 false false nilB 0 nilB nil_z nil_z
  exact ⟨hr,key.1,key.2⟩
def SL (n:Nat) (x:ET n) (w:World):Prop:=GE n x∧Ut.Gu w
def shP (n:Nat) (x:ET n):Prop:=IsV _ (lkV (ehd n x) (elen n x)).2∧Win _ (lkV (ehd n x) (elen n x)).2
def isCn (k:Int):Prop:=k=1∨k=2∨k=3∨k=5
def fiP (n:Nat) (x:ET n):Prop:=((ehd n x).op=4→elen n x=1)∧((ehd n x).op=12→2≤elen n x)∧((ehd n x).op=7→isCn (vhd _ (ehd n x).val).kind)∧IsV _ (lkV (ehd n x) (elen n x)).2
theorem SL.low {n:Nat} {x:ET n} {w W:World} (h:SL n x w) (hb:Below w.heap.size w W):SL n x W:=⟨h.1,h.2.below hb⟩
set_option maxHeartbeats 2000000 in
set_option maxRecDepth 100000 in
theorem isShort_anyE (n:Nat) (x:ET n) (q:Sl) (w:World) (hr:RE n w x q) (hs:SL n x w):Calls Tryz.prog 76 #[.agg (ecl (ehd n x) q)] w fun e w'=>TB (shP n x) w e w':=by
 have hl:=hide (fun o=>like_any n x q (w.alloc o) (hr.below (below_al (Below.refl _ _))) hs.1)
 obtain ⟨x1,y1,z1,x2,y2,z2,x3,y3,z3,x4,y4,z4,hqs⟩:=hr.shape
 subst hqs
 obtain ⟨E,hE⟩:=chk_ex _ (lkV (ehd n x) (elen n x)).2
 have hk:=hide (fun ns ls W (hb:Below w.heap.size w W) (h:RD _ W (lkV (ehd n x) (elen n x)).2 ns ls)=>check_any _ (lkV (ehd n x) (elen n x)).2 ns ls W (lk_ready hs.1 h) (hs.2.below hb) E hE)
 have hx:Hid (shP n x↔E=0):=by
  show shP n x↔E=0
  rcases hE with ⟨rfl,h⟩|⟨rfl,h,h'⟩|⟨rfl,h,h'⟩
  ·exact ⟨fun q=>absurd q.1 h,fun q=>by cases q⟩
  ·exact ⟨fun q=>absurd q.2 h',fun q=>by cases q⟩
  ·exact ⟨fun _=>rfl,fun _=>⟨h,h'⟩⟩
 obtain ⟨p,hp⟩:∃ p,shP n x=p:=⟨_,rfl⟩
 rw [hp] at hx ⊢
 have X0:=hide (ex_new w (ehd n x) ⟨.slice x1 y1 z1,.slice x2 y2 z2,.slice x3 y3 z3,.slice x4 y4 z4⟩)
 clear hr hs hE hp
 unfold LkP at hl
 obtain ⟨h,hh⟩:∃ h,ehd n x=h:=⟨_,rfl⟩
 obtain ⟨m,hm⟩:∃ m,elen n x=m:=⟨_,rfl⟩
 rw [hh,hm] at hl hk
 rw [hh] at X0 ⊢
 clear hh hm
 obtain ⟨V,hV⟩:∃ V,lkV h m=V:=⟨_,rfl⟩
 rw [hV] at hl hk
 clear hV
 obtain ⟨vn,v⟩:=V
 simp only at hl hk
 simp only [ecl] at hl X0 ⊢
 go_enter Tryz.func76, Tryz.ntmps76
 go_wp2_with (go_at_call 135;refine Sto.out ?_)
 refine Sto.mk ?_
 refine (hl.out _).mono ?_
 rintro e w1 ⟨ns,ls,rfl,hrd,hb1⟩
 have B1:=hide (below_then (below_al (Below.refl _ _)) hb1)
 have hc:=hide (hk.out ns ls w1 B1.out hrd)
 clear hb1 hrd hk hl
 unfold vals at hc ⊢
 go_wp2_with (go_at_call 134;refine Sto.out ?_)
 refine Sto.mk ?_
 refine hc.out.mono ?_
 rintro e w2 ⟨rfl,hb2⟩
 have B2:=hide (below_then B1.out hb2)
 go_wp2_with fail
 go_ret
 exact ⟨_,rfl,(show Hid _ from ⟨fun q=>hx.out.2 (by simpa using q),fun q=>by simpa using hx.out.1 q⟩),B2.out⟩
end Lx
end Go.Proofs.YtgicnopppgnjjaaGreatDoor
namespace Go.Proofs.YtgicnopppgnjjaaGreatDoor
namespace Lx
open Go.RowKit
variable {dq : {_f : (p : Prop) → Decidable p // True}}
theorem isV_null:IsV 1 vn1:=by
 refine ⟨⟨by decide,by decide,rfl,Or.inr rfl⟩,⟨fun h=>?_,fun h=>?_,fun h=>?_,fun h=>?_⟩,fun y hy=>absurd hy (by simp [vn1,vH])⟩
 all_goals exact absurd h (by decide)
theorem lk_four {h:Eh} {m:Nat} (k:h.op=4∨h.op=12):lkV h m=⟨1,vn1⟩:=by
 rcases k with k|k <;> simp [lkV,k]
set_option maxHeartbeats 4000000 in
set_option maxRecDepth 100000 in
theorem isFilled_anyE (n:Nat) (x:ET n) (q:Sl) (w:World) (hr:RE n w x q) (hs:SL n x w):Calls Tryz.prog 75 #[.agg (ecl (ehd n x) q)] w fun e w'=>TB (fiP n x) w e w':=by
 have hl:=hide (fun W (hb:Below w.heap.size w W)=>like_any n x q W (hr.below hb) hs.1)
 have hlen:∃ a c,q.ls=.slice a (elen n x) c:=by
  cases n with
  | zero=>exact Empty.elim x
  | succ n =>
   obtain ⟨a,c,e,_⟩:=hr.tl.len
   exact ⟨a,c,e⟩
 obtain ⟨x1,y1,z1,x2,y2,z2,x3,y3,z3,x4,y4,z4,hqs⟩:=hr.shape
 subst hqs
 obtain ⟨a,c,hle⟩:=hlen
 obtain ⟨rfl,rfl,rfl⟩:=Value.slice.inj hle
 clear hle
 obtain ⟨E,hE⟩:=chk_ex _ (lkV (ehd n x) (elen n x)).2
 have hk:=hide (fun ns ls W (hb:Below w.heap.size w W) (h:RD _ W (lkV (ehd n x) (elen n x)).2 ns ls)=>check_any _ (lkV (ehd n x) (elen n x)).2 ns ls W (lk_ready hs.1 h) (hs.2.below hb) E hE)
 have hx:IsV _ (lkV (ehd n x) (elen n x)).2↔E≠40:=by
  rcases hE with ⟨rfl,h⟩|⟨rfl,h,h'⟩|⟨rfl,h,h'⟩
  ·exact ⟨fun q=>absurd q h,fun q=>absurd rfl q⟩
  ·exact ⟨fun _=>by decide,fun _=>h⟩
  ·exact ⟨fun _=>by decide,fun _=>h⟩
 have hP:Hid (fiP n x↔((ehd n x).op=4→elen n x=1)∧((ehd n x).op=12→2≤elen n x)∧((ehd n x).op=7→isCn (vhd _ (ehd n x).val).kind)∧E≠40):=by
  show _↔_
  unfold fiP
  rw [hx]
 have h40:Hid ((ehd n x).op=4∨(ehd n x).op=12→E≠40):=fun k=>hx.1 (by rw [lk_four k];exact isV_null)
 obtain ⟨p,hp⟩:∃ p,fiP n x=p:=⟨_,rfl⟩
 rw [hp] at hP ⊢
 have X0:=hide (ex_new w (ehd n x) ⟨.slice x1 y1 z1,.slice x2 (elen n x) z2,.slice x3 y3 z3,.slice x4 y4 z4⟩)
 clear hr hs hE hp hx
 unfold LkP at hl
 obtain ⟨h,hh⟩:∃ h,ehd n x=h:=⟨_,rfl⟩
 obtain ⟨m,hm⟩:∃ m,elen n x=m:=⟨_,rfl⟩
 rw [hh,hm] at hl hk hP
 rw [hh] at h40
 rw [hh,hm] at X0 ⊢
 clear hh hm
 obtain ⟨V,hV⟩:∃ V,lkV h m=V:=⟨_,rfl⟩
 rw [hV] at hl hk
 clear hV
 obtain ⟨vn,v⟩:=V
 simp only at hl hk
 obtain ⟨op,nm,nms,hvn,hval⟩:=h
 have hic:=hide (fun W=>isConst_any (vhd hvn hval).kind W)
 simp only [ecl] at hl X0 hP h40 ⊢
 by_cases k4:op=4
 ·subst k4
  have hE:=h40.out (Or.inl rfl)
  have hq:p↔m=1:=by rw [hP.out];simp [hE]
  obtain ⟨b,hb⟩:=tells p
  have hbb:=hide hb
  have hmb:((m:Int)==1)=b:=by
   rw [Bool.eq_iff_iff,hb,hq]
   simp
   omega
  clear hq hb
  go_enter Tryz.func75, Tryz.ntmps75
  go_wp2_with fail
  go_ret
  exact ⟨_,rfl,(show Hid _ from ⟨fun q=>hbb.out.1 (by first|exact q|exact hmb.symm.trans q),fun q=>by first|exact hbb.out.2 q|exact hmb.trans (hbb.out.2 q)⟩),below_al (Below.refl _ _)⟩
 by_cases k12:op=12
 ·subst k12
  have hE:=h40.out (Or.inr rfl)
  have hq:p↔2≤m:=by rw [hP.out];simp [hE]
  have hQ:=hide hq
  clear hq
  by_cases h2:(2:Int)≤(m:Int)
  ·go_enter Tryz.func75, Tryz.ntmps75
   go_wp2_with fail
   go_ret
   exact TB.yes (hQ.out.2 (by omega)) (below_al (Below.refl _ _))
  ·go_enter Tryz.func75, Tryz.ntmps75
   go_wp2_with fail
   go_ret
   exact TB.no (fun q=>by have:=hQ.out.1 q;omega) (below_al (Below.refl _ _))
 have tailP:Hid (∀ w1,Below w.heap.size w w1→∀ e w2,(e=.returned (.bool (E != 40))∧Below w.heap.size w w2)→(op=7→isCn (vhd hvn hval).kind)→TB p w e w2):=by
  rintro w1 hb1 e w2 ⟨rfl,hb2⟩ hc
  refine ⟨_,rfl,(show Hid _ from ⟨fun q=>hP.out.2 ⟨fun e=>absurd e k4,fun e=>absurd e k12,hc,by simpa using q⟩,fun q=>by simpa using (hP.out.1 q).2.2.2⟩),hb2⟩
 by_cases k7:op=7
 ·subst k7
  go_enter Tryz.func75, Tryz.ntmps75
  go_wp2_with (go_at_call 133;refine Sto.out ?_)
  refine Sto.mk ?_
  refine (hic.out _).mono ?_
  rintro e w1 ⟨b,rfl,hT,hb1⟩
  have hT1:=hide hT
  have B1:=hide (below_then (below_al (Below.refl _ _)) hb1)
  have X1:=hide (X0.out.below hb1)
  have hl1:=hide (hl.out w1 B1.out)
  have x0:=X1.out.cells
  clear hT hb1 hl X0
  cases b
  ·go_wp2_with fail
   go_ret
   exact TB.no (fun q=>by have:=hT1.out.2 ((hP.out.1 q).2.2.1 (by first|rfl|trivial));cases this) B1.out
  ·have hc7:=hide (hT1.out.1 rfl)
   go_wp2_with (go_at_call 135;refine Sto.out ?_)
   refine Sto.mk ?_
   refine hl1.out.mono ?_
   rintro e w2 ⟨ns,ls,rfl,hrd,hb2⟩
   have B2:=hide (below_then B1.out hb2)
   have hc:=hide (hk.out ns ls w2 B2.out hrd)
   clear hb2 hrd hk hl1
   unfold vals at hc ⊢
   go_wp2_with (go_at_call 134;refine Sto.out ?_)
   refine Sto.mk ?_
   refine hc.out.mono ?_
   rintro e w3 ⟨rfl,hb3⟩
   have B3:=hide (below_then B2.out hb3)
   go_wp2_with fail
   go_ret
   exact tailP.out _ B1.out _ _ ⟨rfl,B3.out⟩ (fun _=>hc7.out)
 ·have hl1:=hide (hl.out _ (below_al (o:=.cells #[.int .i64 op,.string nm,.slice x1 y1 z1,.slice x2 m z2,.int .i64 (vhd hvn hval).kind,.bool (vhd hvn hval).flag,.bool (vhd hvn hval).neg,.string (vhd hvn hval).dig,.int .i64 (vhd hvn hval).exp,.int .u64 (vhd hvn hval).bits,.string (vhd hvn hval).text,.slice x3 y3 z3,.slice x4 y4 z4] 33) (Below.refl _ _)))
  clear hl
  go_enter Tryz.func75, Tryz.ntmps75
  go_wp2_with (go_at_call 135;refine Sto.out ?_)
  refine Sto.mk ?_
  refine hl1.out.mono ?_
  rintro e w2 ⟨ns,ls,rfl,hrd,hb2⟩
  have B2:=hide (below_then (below_al (Below.refl _ _)) hb2)
  have hc:=hide (hk.out ns ls w2 B2.out hrd)
  clear hb2 hrd hk hl1
  unfold vals at hc ⊢
  go_wp2_with (go_at_call 134;refine Sto.out ?_)
  refine Sto.mk ?_
  refine hc.out.mono ?_
  rintro e w3 ⟨rfl,hb3⟩
  have B3:=hide (below_then B2.out hb3)
  go_wp2_with fail
  go_ret
  exact tailP.out _ B2.out _ _ ⟨rfl,B3.out⟩ (fun e=>absurd e k7)
theorem askShort:Ask 76 shP SL:=⟨fun n x q w hr hs=>isShort_anyE n x q w hr hs,fun n x w W h hb=>h.low hb,fun n h l w hs i hi=>⟨hs.1.2.2 _ (List.getElem_mem hi),hs.2⟩⟩
theorem askFilled:Ask 75 fiP SL:=⟨fun n x q w hr hs=>isFilled_anyE n x q w hr hs,fun n x w W h hb=>h.low hb,fun n h l w hs i hi=>⟨hs.1.2.2 _ (List.getElem_mem hi),hs.2⟩⟩
def lck (dq:{_f:(p:Prop)→Decidable p // True}) (n:Nat) (x:ET n):Int:=@ite _ (¬ (evA bareP n x∧evA fiP n x)) (dq.1 _) 140 (@ite _ (evA shP n x∧edep n x≤16∧esiz n x≤512) (dq.1 _) 0 2)
theorem lck_is (n:Nat) (x:ET n):ChkE fiP shP n x (lck dq n x):=by
 unfold lck ChkE
 by_cases a:evA bareP n x∧evA fiP n x
 ·by_cases b:evA shP n x∧edep n x≤16∧esiz n x≤512
  ·simp [a,b]
  ·simp [a,b]
 ·simp [a]
theorem check_is (n:Nat) (x:ET n) (q:Sl) (w:World) (hr:RE n w x q) (hs:SL n x w) (hz:esiz n x≤200000):Calls Tryz.prog 34 #[.agg (ecl (ehd n x) q)] w fun e w'=>e=.returned (.int .i64 (lck dq n x))∧Below w.heap.size w w' :=
 lcheck_any askFilled askShort n x q w hr hs hs hz _ (lck_is n x)
theorem rd_bound {f:Nat} {l:List UInt8} {x:ET (dp f + 1)} (h:rdR f l=.inr x):GE _ x∧esiz _ x≤2000:=by
 unfold rdR at h
 split at h
 ·rename_i h0
  obtain ⟨h1,h2,h3⟩:=scR_ok l h0
  have hok:=h3 (l.length:Nat)
  revert h
  cases hm:mpgT (stp f) ((scR l).2.2++[⟨0,[],(l.length:Nat)⟩]) with
  | inl p=>intro h;cases h
  | inr y =>
   intro h
   have hlen:((scR l).2.2++[(⟨0,[],(l.length:Nat)⟩:Tk)]).length≤1025:=by simp;omega
   obtain ⟨g1,g2⟩:=mpg_kd (stp_nx f) (stp_kd f) _ _ hok (by omega) hm
   have e:x=y.1:=by
    obtain ⟨y1,y2⟩:=y
    cases y2 with
    | nil=>cases h
    | cons t r =>
     simp only [endR] at h
     split at h
     ·cases h;rfl
     ·cases h
   rw [e]
   exact ⟨g1,by omega⟩
 ·cases h
theorem rd_err {f:Nat} {l:List UInt8} {y:Int×Int} (h:rdR f l=.inl y):y.1≠0:=by
 unfold rdR at h
 split at h
 ·revert h
  cases endR (mpgT (stp f) ((scR l).2.2++[⟨0,[],(l.length:Nat)⟩])) with
  | inl p=>intro h;cases h;simp
  | inr e=>intro h;cases h
 ·rename_i h0
  cases h
  simp only
  omega
def paR (dq:{_f:(p:Prop)→Decidable p // True}) (f:Nat) (l:List UInt8):Sum (Int×Int) (ET (dp f + 1)):=prsO (lck dq _) (rdR f l)
theorem parse_is (hP:ParseOk) (f:Nat) (hf:1025≤f) (s:ByteArray) (w:World) (g:Gg w) (gp:Gp w) (hz:s.size≤1000000) :
  Calls Tryz.prog 9 #[.string s] w fun e w'=>RdP (dp f + 1) w (paR dq f (bl s)) e w' :=
 parse_any hP f hf s w g gp hz (lck dq _) (fun y h=>rd_err h) fun x q W h hr hb=>check_is _ x q W hr ⟨(rd_bound h).1,g.gu.below hb⟩ (by have:=(rd_bound h).2;omega)
end Lx
end Go.Proofs.YtgicnopppgnjjaaGreatDoor
namespace Go.Proofs.YtgicnopppgnjjaaGreatDoor
namespace Lx
open Go.RowKit
variable {dq : {_f : (p : Prop) → Decidable p // True}}
theorem lay_all:∀ n,LayOk n
 | 0=>fun x=>Empty.elim x
 | n + 1=>lay_any n (lay_all n)
structure NC (S:Nat) (W:World) (g:Nat) (l:List Nd) (ys:List Value):Prop where
 row:∃ cur,W.heap[g]?=some (.cells cur 67 (0,0))∧cur.toList.take (l.length * 13)=ys
 yl:ys.length=l.length * 13
 lo:S≤g
 max:l.length≤100000
 all:∀ j (h:j<l.length),∃ s,NdK S W l[j] s∧∀ r u,(ecl l[j].h s).toList[r]?=some u→ys[j * 13 + r]?=some u
theorem NC.below {S:Nat} {W W1:World} {g:Nat} {l:List Nd} {ys:List Value} (h:NC S W g l ys) (hb:Below W.heap.size W W1):NC S W1 g l ys:=by
 obtain ⟨cur,hc,ht⟩:=h.row
 refine ⟨⟨cur,(hb.block _ (Array.getElem?_eq_some_iff.1 hc).1).trans hc,ht⟩,h.yl,h.lo,h.max,fun j hj=>?_⟩
 obtain ⟨s,a,b⟩:=h.all j hj
 exact ⟨s,a.keep fun k hk _=>hb.block k hk,b⟩
theorem NC.cell {S:Nat} {W:World} {g:Nat} {l:List Nd} {ys:List Value} (h:NC S W g l ys) (i:Nat) (hi:i<ys.length):W.cell? ⟨g,i,none⟩=ys[i]?:=by
 obtain ⟨cur,hc,ht⟩:=h.row
 have h1:=h.yl
 unfold World.cell?
 rw [hc,←ht,List.getElem?_take,if_pos (by omega)]
 simp
theorem NC.ndl {S:Nat} {W:World} {g c:Nat} {l:List Nd} {ys:List Value} (h:NC S W g l ys) (h1:l.length≤c) (h2:c≤maxLen) (hr:∀ d∈l,∀ s,NdK S W d s→NdR W d s):NdL W (.slice (some ⟨g,0,none⟩) l.length c) l:=by
 obtain ⟨cur,hc,ht⟩:=h.row
 refine Or.inr ⟨g,0,c,none,rfl,h1,h2,fun _=>⟨rfl,(Array.getElem?_eq_some_iff.1 hc).1⟩,fun i hi=>?_⟩
 obtain ⟨s,a,b⟩:=h.all i hi
 refine ⟨s,fun r u hrv=>?_,hr _ (List.getElem_mem hi) s a⟩
 have hq:=b r u hrv
 rw [Nat.zero_add,h.cell _ (List.getElem?_eq_some_iff.1 hq).1]
 exact hq
theorem NT.mono {L S S' N:Nat} {W:World} {v:Value} {xs ys:List Value} {l:List Nd} (h:NT L S W v N xs l ys) (hs:S'≤S):NT L S' W v N xs l ys:=⟨h.row,h.xl,fun j hj=>by
 obtain ⟨s,a,b⟩:=h.all j hj
 exact ⟨s,a.mono hs,b⟩⟩
theorem NT.nc {L S:Nat} {W:World} {g n cap:Nat} {l:List Nd} {ys:List Value} (h:NT L S W (.slice (some ⟨g,0,none⟩) n cap) 0 [] l ys) (hm:l.length≤100000) (hS:S≤L):n=l.length∧n≤cap∧cap≤maxLen∧NC S W g l ys:=by
 have hx:=h.row
 rw [Nat.zero_add,List.nil_append] at hx
 rcases hx.2 with ⟨e,_⟩|⟨g',cap',cur,e,h1,h2,h3,h4,h5,h6⟩
 ·cases e
 ·obtain ⟨e1,e2,e3⟩:=Value.slice.inj e
  cases e1
  cases e3
  refine ⟨e2,by omega,h4,⟨cur,h2,h6⟩,h.yl,Nat.le_trans hS h1,hm,h.all⟩
def CpP (dq:{_f:(p:Prop)→Decidable p // True}) (n:Nat) (x:ET n) (w:World) (e:Ending) (w':World):Prop:=Below w.heap.size w w' ∧
 ((lck dq n x≠0∧e=.returned (.tuple #[.slice none 0 0,.int .i64 (lck dq n x)]))∨(lck dq n x=0∧∃ g ys,e=.returned (.tuple #[.slice (some ⟨g,0,none⟩) (esiz n x) (esiz n x),.int .i64 0])∧NC w.heap.size w' g ((prg n x 0).map bareN) ys))
set_option maxHeartbeats 4000000 in
set_option maxRecDepth 100000 in
theorem compile_any (n:Nat) (x:ET n) (q:Sl) (w:World) (hr:RE n w x q) (hs:SL n x w) (hz:esiz n x≤100000):Calls Tryz.prog 21 #[.agg (ecl (ehd n x) q)] w fun e w'=>CpP dq n x w e w':=by
 have hc:=hide (fun o=>check_is (dq:=dq) n x q (w.alloc o) (hr.below (below_al (Below.refl _ _))) (hs.low (below_al (Below.refl _ _))) (by omega))
 obtain ⟨x1,y1,z1,x2,y2,z2,x3,y3,z3,x4,y4,z4,hqs⟩:=hr.shape
 subst hqs
 have HR:=hide hr
 have HG:=hide hs.1
 have e1:=esz_pos n x
 have X0:=hide (ex_new w (ehd n x) ⟨.slice x1 y1 z1,.slice x2 y2 z2,.slice x3 y3 z3,.slice x4 y4 z4⟩)
 have LAY:=hide (fun (w2:World) (B D:Nat) (hb:Below w.heap.size w w2) (hB:w.heap.size≤B) (V:Vr w2 B D (.slice none 0 0))=>lay_all n x ⟨.slice x1 y1 z1,.slice x2 y2 z2,.slice x3 y3 z3,.slice x4 y4 z4⟩ w w2 B D w.heap.size 0 (.slice none 0 0) [] HR.out hb (Nat.le_refl _) hB hb.size V (World.ownsRow_nil _ _ _ _) (by omega) HG.out)
 obtain ⟨E,hE⟩:∃ E,lck dq n x=E:=⟨_,rfl⟩
 unfold CpP
 rw [hE] at hc ⊢
 obtain ⟨M,hM⟩:∃ M,esiz n x=M:=⟨_,rfl⟩
 rw [hM] at hz e1 ⊢
 have HML:=hide hM
 clear hr hs hE hM
 obtain ⟨h,hh⟩:∃ h,ehd n x=h:=⟨_,rfl⟩
 rw [hh] at hc LAY X0 ⊢
 clear hh
 unfold ecl at hc LAY X0 ⊢
 dsimp only at hc LAY X0 ⊢
 have hsf:=fun (a:Addr) (c:Array Value) (w:World)=>run_store Tryz.prog w a (.func (.func 55) #[] c) .plain rfl
 by_cases hl:E=0
 ·subst hl
  go_enter Tryz.func21, Tryz.ntmps21
  go_wp2_with (go_at_call 34;refine Sto.out ?_)
  refine Sto.mk ?_
  refine (hc.out _).mono ?_
  rintro e w1 ⟨rfl,hb1⟩
  have B1:=hide (below_then (below_al (Below.refl _ _)) hb1)
  have X1:=hide (X0.out.below hb1)
  have c1:=(show Ex w1 w.heap.size h ⟨.slice x1 y1 z1,.slice x2 y2 z2,.slice x3 y3 z3,.slice x4 y4 z4⟩ from ⟨X1.out.at_⟩).cells
  dsimp only at c1
  have l1:=X1.out.lt
  clear hb1 hc X0
  have VV:Hid (Vr ((w1.alloc (.cells #[.slice none 0 0] 53)).alloc (.cells #[layV w1.heap.size (w1.heap.size + 1)] 89)) w1.heap.size (w1.heap.size + 1) (.slice none 0 0)):=⟨low_at3 (by simp) (last_at3 rfl),last_at3 (by simp)⟩
  have LL:=hide (LAY.out _ w1.heap.size (w1.heap.size + 1) (below_al (below_al B1.out)) B1.out.size VV.out)
  unfold layV at LL
  clear LAY VV
  go_wp2_with fail
  refine LL.out.mono ?_
  rintro e w2 ⟨rfl,v,ys,V2,hnt,hfl,_⟩
  have B2:Hid (Below w.heap.size w w2):=(below_al (below_al B1.out)).trans (hfl.low (by have:=B1.out.size;simp;omega) B1.out.size (fun g hg=>by cases hg))
  have hrow:=hnt.row
  rw [Nat.zero_add,List.length_map,prg_len,HML.out] at hrow
  obtain ⟨M',hM'⟩:∃ M',M=M' + 1:=⟨M - 1,by omega⟩
  obtain ⟨g,cap,hv⟩:=ownsRow_succ (by rw [←hM'];exact hrow)
  rw [←hM'] at hv
  subst hv
  obtain ⟨k1,k2,k3,k4⟩:=(hnt.mono (S':=w.heap.size) (by have:=B1.out.size;simp;omega)).nc (by rw [List.length_map,prg_len,HML.out];omega) (Nat.le_refl _)
  have ml:maxLen=9223372036854775807:=rfl
  have cB:=V2.cells.1
  have hm0:(0:Int)≤(M:Int):=by omega
  have hm1:(M:Int)≤(cap:Int):=by omega
  have hm2:(M:Int).toNat=M:=by omega
  have NCW:=hide k4
  clear LL V2 hnt hfl hrow hM' k1 k4 c1 X1 HR HG
  go_wp2_with fail
  refine bodyPost_ret (v:=.tuple #[.slice (some ⟨g,0,none⟩) M M,.int .i64 0]) (by simp [results,Tryz.results21,go_sem]) rfl ⟨B2.out,Or.inr ⟨(by first|rfl|trivial),g,ys,rfl,NCW.out⟩⟩
 ·go_enter Tryz.func21, Tryz.ntmps21
  go_wp2_with (go_at_call 34;refine Sto.out ?_)
  refine Sto.mk ?_
  refine (hc.out _).mono ?_
  rintro e w1 ⟨rfl,hb1⟩
  have B1:=hide (below_then (below_al (Below.refl _ _)) hb1)
  clear hb1 hc X0
  go_wp2_with fail
  refine bodyPost_ret (v:=.tuple #[.slice none 0 0,.int .i64 E]) (by simp [results,Tryz.results21,go_sem]) rfl ⟨B1.out,Or.inl ⟨hl,rfl⟩⟩
end Lx
end Go.Proofs.YtgicnopppgnjjaaGreatDoor
namespace Go.Proofs.YtgicnopppgnjjaaGreatDoor
namespace Lx
open Go.RowKit Go.Maps
set_option maxRecDepth 100000
def ZE (W:World) (i:Nat):Prop:=W.heap[i]?=some (.cells #[.int .i64 0,.string ⟨#[]⟩,.slice none 0 0,.slice none 0 0,.int .i64 0,.bool false,.bool false,.string ⟨#[]⟩,.int .i64 0,.int .u64 0,.string ⟨#[]⟩,.slice none 0 0,.slice none 0 0] 33 (0,0))
end Lx
end Go.Proofs.YtgicnopppgnjjaaGreatDoor
namespace Go.Proofs.YtgicnopppgnjjaaGreatDoor
namespace Lx
open Go.RowKit
def EN (W:World) (g:Nat) (l:List Int):Prop:=W.heap[g]?=some (.cells (zcs l).toArray 3 (0,0))
theorem EN.cell {W:World} {g:Nat} {l:List Int} (h:EN W g l) (i:Nat) (hi:i<l.length):W.cell? ⟨g,i,none⟩=some (.int .i64 l[i]):=by
 unfold World.cell?
 rw [show W.heap[g]?=_ from h]
 simp [zcs,hi]
theorem EN.frz {W:World} {g:Nat} {l:List Int} (h:EN W g l) (i:Nat):W.frozen? ⟨g,i,none⟩=false:=by
 have:W.heap[g]?=_:=h
 simp [World.frozen?,this]
theorem EN.set {W:World} {g:Nat} {l:List Int} (h:EN W g l) (i:Nat) (z:Int):EN (W.setCell ⟨g,i,none⟩ (.int .i64 z)) g (l.set i z):=by
 have:=blkT h i (.int .i64 z)
 show _=_
 rw [this]
 simp [zcs,List.map_set]
theorem made_z (n:Nat):madeCells #[.int .i64 0] n=(zcs (List.replicate n 0)).toArray:=by
 apply Array.ext
 ·simp [madeCells,zcs]
 ·intro i h1 h2
  simp [madeCells,zcs,Nat.mod_one]
def enZ (i:Nat) (es:List Nat):List Int:=List.replicate i 0++es.map fun e:Nat=>(e:Int)
theorem enZ_len (i:Nat) (es:List Nat):(enZ i es).length=i + es.length:=by simp [enZ]
theorem enZ_get (i:Nat) (es:List Nat) (p:Nat) (h1:i≤p) (h2:p<(enZ i es).length):(enZ i es)[p]=(es.getD (p - i) 0:Nat):=by
 have hl:p - i<es.length:=by rw [enZ_len] at h2;omega
 have e:(enZ i es)[p]?=some ((es[p - i]:Nat):Int):=by
  unfold enZ
  rw [List.getElem?_append_right (by simpa using h1)]
  simp [hl]
 rw [List.getElem?_eq_getElem h2,Option.some.injEq] at e
 rw [e,List.getD_eq_getElem?_getD,List.getElem?_eq_getElem hl]
 rfl
theorem enZ_set (i e:Nat) (es:List Nat):(enZ (i + 1) es).set i (e:Int)=enZ i (e :: es):=by
 unfold enZ
 rw [List.replicate_succ',List.append_assoc,List.set_append_right _ _ (by simp)]
 simp
structure OI (w:World) (l:List Nd) (i:Nat) (es:List Nat) (W:World):Prop where
 en:enF l.length (l.drop i) i=some es
 len:i + es.length=l.length
 cells:EN W w.heap.size (enZ i es)
 bel:Below w.heap.size w W
theorem OI.ge {w:World} {l:List Nd} {i:Nat} {es:List Nat} {W:World} (h:OI w l i es W):∀ p,i≤p→p<l.length→p≤es.getD (p - i) 0:=by
 intro p h1 h2
 have hl:p - i<es.length:=by have:=h.len;omega
 have:=(enF_ok (z:=lf 1) (l.drop i) i es rfl (by rw [List.length_drop];have:=h.len;omega) h.en).2 (p - i) hl
 have:=this.1
 rw [List.getD_eq_getElem?_getD,List.getElem?_eq_getElem hl]
 simp only [Option.getD_some]
 omega
theorem OI.step {w:World} {l:List Nd} {i e:Nat} {es:List Nat} {W:World} (h:OI w l (i + 1) es W) (hi:i<l.length) (hk:kEnd l.length (fun p=>es.getD (p - (i + 1)) 0) l[i].kids (i + 1)=some e):OI w l i (e :: es) (W.setCell ⟨w.heap.size,i,none⟩ (.int .i64 (e:Int))):=by
 refine ⟨?_,by have:=h.len;simp;omega,?_,h.bel.setCell (Nat.le_refl _) _⟩
 ·rw [List.drop_eq_getElem_cons hi]
  unfold enF
  rw [h.en]
  simp only
  rw [hk]
 ·have:=h.cells.set i (e:Int)
  rw [enZ_set] at this
  exact this
theorem OI.bad {w:World} {l:List Nd} {i k e:Nat} {es:List Nat} {W:World} (h:OI w l (i + 1) es W) (hi:i<l.length) (hkl:k<l[i].kids.length) (hk:kEnd l.length (fun p=>es.getD (p - (i + 1)) 0) (l[i].kids.take k) (i + 1)=some e) (hn:¬ (l[i].kids[k]=(e:Int)∧e<l.length)):¬ inOrd l:=by
 refine not_inOrd (i:=i) (by omega) ?_
 rw [List.drop_eq_getElem_cons hi]
 unfold enF
 rw [h.en]
 simp only
 have e1:l[i].kids=(l[i].kids.take k++[l[i].kids[k]])++l[i].kids.drop (k + 1):=by rw [←List.take_succ_eq_append_getElem hkl,List.take_append_drop]
 rw [e1,kEnd_app _ _ _ (by rw [kEnd_snoc,hk];simp only;rw [if_neg hn])]
set_option maxHeartbeats 4000000 in
set_option maxRecDepth 100000 in
theorem order_any (l:List Nd) (v:Value) (w:World) (h:NdL w v l) (hm:l.length≤100000):Calls Tryz.prog 65 #[v] w fun e w'=>TB (inOrd l) w e w':=by
 obtain ⟨al,cl,rfl,hl1,hl2⟩:=h.len
 have ml:maxLen=9223372036854775807:=rfl
 have hmk:=run_make_row' (P:=Tryz.prog) 65 3 (.int .i64 0) 8 Tryz.underlying65 infoZ rfl .i64 .i64 l.length (by omega) (by omega)
 rw [made_z] at hmk
 have HL:=hide h
 have O0:Hid (OI w l l.length [] (w.alloc (.cells (zcs (List.replicate l.length 0)).toArray 3))):=by
  refine ⟨by simp [enF],by simp,?_,below_al (Below.refl _ _)⟩
  show _=_
  rw [heap_alloc_last]
  simp [enZ]
 clear h
 obtain ⟨N,hN⟩:∃ N,l.length=N:=⟨_,rfl⟩
 have HN:=hide hN
 rw [hN] at hm hl1 hmk O0 ⊢
 clear hN
 go_enter Tryz.func65, Tryz.ntmps65
 go_wp2_with fail
 go_loopw [4] (fun v W=>∃ (i:Int) (es:List Nat),v=.int .i64 i∧-1≤i∧i<(N:Int)∧Hid (OI w l (i + 1).toNat es W)) (fun v _=>((match v with | .int _ i=>i + 1|_=>0):Int).toNat)
 case atStart=>exact ⟨(N:Int) - 1,[],by first|rfl|go_num,by omega,by omega,by rw [show ((N:Int) - 1 + 1).toNat=N by omega];exact O0.out⟩
 case round =>
  obtain ⟨i,es,rfl,hi1,hi2,H⟩:=hrel
  by_cases hi0:(0:Int)≤i
  ·obtain ⟨m,rfl⟩:∃ m:Nat,i=(m:Int):=⟨i.toNat,by omega⟩
   have hml:m<l.length:=by have:=HN.out;omega
   have H1:Hid (OI w l (m + 1) es wr):=by have:=H.out;rw [show ((m:Int) + 1).toNat=m + 1 by omega] at this;exact this
   obtain ⟨b,o,c,he,hbl,_,_,s,hrg,hrd⟩:=HL.out.at m hml
   obtain ⟨a1,c1,a2,c2,a3,m3,c3,a4,m4,c4,hqs⟩:=hrd.shape
   subst hqs
   rw [HN.out] at he
   obtain ⟨rfl, -,rfl⟩:=Value.slice.inj he
   have r0:=(range13 (rangeAt_below hrg H1.out.bel hbl)).2.2.2.1
   dsimp only at r0
   have KD:=hide (hrd.2.2.below H1.out.bel)
   clear he hrg hrd H
   have hw1:IntKind.i64.wrap ((m:Int) + 1)=((m + 1:Nat):Int):=by rw [IntKind.wrap_i64];omega
   go_wp2_with fail
   have GE:=hide H1.out.ge
   go_loopw [5,26] (fun u v W=>∃ (k e:Nat),u=.int .i64 e∧v=.int .i64 k∧k≤l[m].kids.length∧Hid (kEnd l.length (fun p=>es.getD (p - (m + 1)) 0) (l[m].kids.take k) (m + 1)=some e∧m + 1≤e∧OI w l (m + 1) es W∧KL W (.slice a2 l[m].kids.length c2) l[m].kids)) (fun _ v _=>l[m].kids.length - (intOf v).toNat)
   case atStart=>exact ⟨0,m + 1,by simp,rfl,Nat.zero_le _,by simp [kEnd],Nat.le_refl _,H1.out,KD.out⟩
   case round =>
    obtain ⟨k,e,rfl,rfl,hk,I⟩:=hrel
    by_cases hkl:k<l[m].kids.length
    ·have hki:(k:Int)<(l[m].kids.length:Int):=by omega
     obtain ⟨kb,ko,kc,hke,hkb,hk1,hk2,hkc⟩:=I.out.2.2.2.at k hkl
     obtain ⟨rfl, -,rfl⟩:=Value.slice.inj hke
     clear hke
     by_cases h1:l[m].kids[k]=(e:Int)
     ·rw [h1] at hkc
      by_cases h2:e<N
      ·have h2i:(e:Int)<(N:Int):=by omega
       have hel:e<(enZ (m + 1) es).length:=by rw [enZ_len,I.out.2.2.1.len,HN.out];exact h2
       have hce:=I.out.2.2.1.cells.cell e hel
       rw [enZ_get _ _ _ I.out.2.1 hel] at hce
       have hE2:=GE.out e I.out.2.1 (by rw [HN.out];exact h2)
       go_wp2_with fail
       refine ⟨⟨k + 1,es.getD (e - (m + 1)) 0,rfl,by go_num,by omega,?_,by have:=I.out.2.1;omega,I.out.2.2.1,I.out.2.2.2⟩,by simp [intOf];omega⟩
       rw [List.take_succ_eq_append_getElem hkl,kEnd_snoc,I.out.1]
       simp only
       rw [if_pos ⟨h1,by rw [HN.out];exact h2⟩]
      ·have h2i:(N:Int)≤(e:Int):=by omega
       go_wp2_with fail
       go_ret
       exact ⟨_,rfl,(show Hid _ from ⟨fun q=>absurd q (by decide),fun q=>absurd q (I.out.2.2.1.bad hml hkl I.out.1 (fun q=>h2 (by have:=HN.out;omega)))⟩),I.out.2.2.1.bel⟩
     ·have hne:(l[m].kids[k]==(e:Int))=false:=by simp [h1]
      go_wp2_with fail
      go_ret
      exact ⟨_,rfl,(show Hid _ from ⟨fun q=>absurd q (by decide),fun q=>absurd q (I.out.2.2.1.bad hml hkl I.out.1 (fun q=>h1 q.1))⟩),I.out.2.2.1.bel⟩
    ·have hki:¬ (k:Int)<(l[m].kids.length:Int):=by omega
     have hke:l[m].kids.take k=l[m].kids:=List.take_of_length_le (by omega)
     have hce:=I.out.2.2.1.cells.cell m (by rw [enZ_len];omega)
     have hcf:=I.out.2.2.1.cells.frz m
     have hmi:(m:Int)<(N:Int):=by omega
     have hm0:(0:Int)≤(m:Int):=by omega
     have I2:Hid (OI w l m (e :: es) (wr.setCell ⟨w.heap.size,m,none⟩ (.int .i64 (e:Int)))):=I.out.2.2.1.step hml (by have:=I.out.1;rw [hke] at this;exact this)
     clear hke
     go_wp2_with fail
     exact ⟨⟨(m:Int) - 1,e :: es,rfl,by omega,by omega,by rw [show ((m:Int) - 1 + 1).toNat=m by omega];exact I2.out⟩,by show ((m:Int) - 1 + 1).toNat<((m:Int) + 1).toNat;omega⟩
  ·have him:i=-1:=by omega
   subst him
   have H0:Hid (OI w l 0 es wr):=H.out
   have hel:es.length=N:=by have:=H0.out.len;have:=HN.out;omega
   have HI:Hid (inOrd l↔es[0]?=some N):=by
    have h1:=H0.out.en
    rw [List.drop_zero] at h1
    constructor
    ·rintro ⟨es',h2,h3⟩
     rw [h1] at h2
     cases h2
     rw [←HN.out]
     exact h3
    ·intro h3
     exact ⟨es,h1,by rw [HN.out];exact h3⟩
   clear H
   by_cases hN0:N=0
   ·subst hN0
    go_wp2_with fail
    go_ret
    refine ⟨_,rfl,(show Hid _ from ⟨fun q=>absurd q (by decide),fun q=>?_⟩),H0.out.bel⟩
    have:=HI.out.1 q
    rw [List.getElem?_eq_none (by omega)] at this
    cases this
   ·have hNi:(0:Int)<(N:Int):=by omega
    have hce:=H0.out.cells.cell 0 (by rw [enZ_len];omega)
    rw [enZ_get _ _ _ (Nat.le_refl _) (by rw [enZ_len];omega),Nat.sub_zero] at hce
    obtain ⟨a,ha⟩:∃ a,es.getD 0 0=a:=⟨_,rfl⟩
    have hes:es[0]?=some a:=by
     rw [←ha,List.getD_eq_getElem?_getD,List.getElem?_eq_getElem (show 0<es.length by omega)]
     rfl
    rw [ha] at hce
    rw [hes] at HI
    go_wp2_with fail
    go_ret
    exact ⟨_,rfl,(show Hid _ from ⟨fun q=>HI.out.2 (by rw [show a=N from Int.ofNat.inj (by simpa using q)]),fun q=>by have:=Option.some.inj (HI.out.1 q);subst this;simp⟩),H0.out.bel⟩
end Lx
end Go.Proofs.YtgicnopppgnjjaaGreatDoor
