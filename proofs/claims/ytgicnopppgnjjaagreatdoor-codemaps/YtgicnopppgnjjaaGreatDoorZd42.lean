/- Merged by program: CoBack. -/
import Derived.Test.YtgicnopppgnjjaaGreatDoorZd41
import Derived.Test.YtgicnopppgnjjaaGreatDoorZd28
import Derived.Deep.RegionLaw
import Derived.Deep.RegionHeld3
set_option linter.unusedSimpArgs false
set_option linter.unusedVariables false
namespace Go.Proofs.YtgicnopppgnjjaaGreatDoor
namespace Lx
open Go.RowKit
theorem step_ex {ops:Array Oper} {o:Oper} {a:Act} {W:World} {K:Act→World→Prop} {Q:Exit→Act→World→Prop} {E:Prop} (hgd:o.guard=none) (s x:Operand) (ho:o.op=.call {callee:=.builtin .append,args:=#[s,x],argTypes:=#[24,24]})
  (B:Nat) (v:Value) (n:Nat) (xs:List Value) (hs:a.eval s=v) (hown:W.ownsRow B 33 13 v n xs) (g c:Nat) (hx:a.eval x=.slice (some ⟨g,0,none⟩) 1 c) (hd:Eh) (q:Sl) (h1:q.ns.oneCell'=true) (h2:q.ls.oneCell'=true) (h3:q.vs.oneCell'=true) (h4:q.vl.oneCell'=true)
  (hnews:W.rangeAt g 0 (ecl hd q).toList) (hm:n≤200000) (hB:B≤W.heap.size)
  (h:∀ av c' w',Hid (w'.ownsRow B 33 13 (.slice av (n + 1) c') (n + 1) (xs++(ecl hd q).toList))→Hid (W.grownBy w' v.ownBlock)→Hid ((Value.slice av (n + 1) c').ownBlock=v.ownBlock∨(Value.slice av (n + 1) c').ownBlock=some W.heap.size)→K (a.put o.dst (.slice av (n + 1) c')) w') :
  if Region.wanted o (yielded ops a.tmps)=true then Oper.wp Tryz.prog o a W K Q else E:=by
 have hw:Region.wanted o (yielded ops a.tmps)=true:=by simp [Region.wanted,hgd]
 rw [if_pos hw]
 obtain ⟨i0,hi,hz0,hz1,hz2⟩:=info_parts infoEE
 obtain ⟨v',w',hr,r1,r2,r3,r4⟩:=run_append_own_at (P:=Tryz.prog) W B 24 o.type 33 i0 _ 13 192 Tryz.underlying24 hi hz0 hz1 hz2 rfl (by decide) v n xs hown ⟨g,0,none⟩ 1 c (ecl hd q).toList rfl (by
  intro j u hj
  have:=hnews j u hj
  rw [show (⟨g,0,none⟩:Addr).add j=⟨g,0 + j,none⟩ by unfold Addr.add;split <;> simp_all]
  exact this) (by
  intro u hu
  simp only [ecl,List.mem_cons,List.not_mem_nil,or_false] at hu
  rcases hu with rfl|rfl|rfl|rfl|rfl|rfl|rfl|rfl|rfl|rfl|rfl|rfl|rfl
  all_goals first|rfl|exact h1|exact h2|exact h3|exact h4) (by unfold maxLen;omega) (by omega) hB
 unfold Oper.wp execOp
 simp only [ho,resolve,invoke,builtin,Sem.run_bind,Sem.run_pure,Result.andThen_ok,List.map_toArray,List.map_cons,List.map_nil,hs,hx,hr]
 rcases r1.2 with ⟨rfl,e⟩|⟨g',cap,cur,rfl,_⟩
 ·omega
 ·exact h _ _ w' r1 r2 r4
structure MaI (w:World) (h:Eh) (nv:Value) (lv:Value) (i:Nat) (L:Nat) (W:World):Prop where
 bel:Below w.heap.size w W
 ex:W.heap[i]?=some (.cells (ecl (bareH h) ⟨nv,lv,.slice none 0 0,.slice none 0 0⟩) 33 (0,0))
 lo:w.heap.size + 2≤i∧i<L
 own:OwnS W (w.heap.size + 2) nv h.names
 res:ZE W w.heap.size
theorem low_at3d {W:World} {o:Obj} {i:Nat} {c:Option Obj} (hi:i<W.heap.size) (h:W.drew.heap[i]?=c):(W.alloc o).drew.heap[i]?=c:=(Below.heap_alloc _ _ _ hi).trans h
theorem zb_cells {W:World} {i:Nat} {T:TypeId} (h:W.heap[i]?=some (.cells #[.int .i64 0,.string ⟨#[]⟩,.slice none 0 0,.slice none 0 0,.int .i64 0,.bool false,.bool false,.string ⟨#[]⟩,.int .i64 0,.int .u64 0,.string ⟨#[]⟩,.slice none 0 0,.slice none 0 0] T (0,0))):(W.cell? ⟨i,0,none⟩=some (.int .i64 0)∧W.cell? ⟨i,1,none⟩=some (.string ⟨#[]⟩)∧W.cell? ⟨i,2,none⟩=some (.slice none 0 0)∧W.cell? ⟨i,3,none⟩=some (.slice none 0 0)∧W.cell? ⟨i,4,none⟩=some (.int .i64 0)∧W.cell? ⟨i,5,none⟩=some (.bool false)∧W.cell? ⟨i,6,none⟩=some (.bool false)∧W.cell? ⟨i,7,none⟩=some (.string ⟨#[]⟩)∧W.cell? ⟨i,8,none⟩=some (.int .i64 0)∧W.cell? ⟨i,9,none⟩=some (.int .u64 0)∧W.cell? ⟨i,10,none⟩=some (.string ⟨#[]⟩)∧W.cell? ⟨i,11,none⟩=some (.slice none 0 0)∧W.cell? ⟨i,12,none⟩=some (.slice none 0 0))∧∀ j,W.frozen? ⟨i,j,none⟩=false:=by
 refine ⟨⟨?_,?_,?_,?_,?_,?_,?_,?_,?_,?_,?_,?_,?_⟩,fun j=>by simp [World.frozen?,h]⟩
 iterate 13 (unfold World.cell?;rw [h];rfl)
theorem mai_end {w W:World} {h:Eh} {y:Hd} {nv:Value} {i:Nat} {nd:Option Obj} (hy:vhd h.vn h.val=y) (hb:Below w.heap.size w W) (hz:W.heap[i]?=some (.cells #[.int .i64 0,.string ⟨#[]⟩,.slice none 0 0,.slice none 0 0,.int .i64 0,.bool false,.bool false,.string ⟨#[]⟩,.int .i64 0,.int .u64 0,.string ⟨#[]⟩,.slice none 0 0,.slice none 0 0] 33 (0,0))) (lo:w.heap.size + 2≤i) (own:OwnS W (w.heap.size + 2) nv h.names) (res:ZE W w.heap.size) (hn:W.heap[w.heap.size + 1]?=nd) :
  MaI w h nv (.slice none 0 0) i W.heap.size (((((((((((((W.setCell ⟨i,0,none⟩ (.int .i64 h.op)).setCell ⟨i,1,none⟩ (.string h.name)).setCell ⟨i,2,none⟩ (nv)).setCell ⟨i,3,none⟩ (.slice none 0 0)).setCell ⟨i,4,none⟩ (.int .i64 y.kind)).setCell ⟨i,5,none⟩ (.bool y.flag)).setCell ⟨i,6,none⟩ (.bool y.neg)).setCell ⟨i,7,none⟩ (.string y.dig)).setCell ⟨i,8,none⟩ (.int .i64 y.exp)).setCell ⟨i,9,none⟩ (.int .u64 y.bits)).setCell ⟨i,10,none⟩ (.string y.text)).setCell ⟨i,11,none⟩ (.slice none 0 0)).setCell ⟨i,12,none⟩ (.slice none 0 0))∧(((((((((((((W.setCell ⟨i,0,none⟩ (.int .i64 h.op)).setCell ⟨i,1,none⟩ (.string h.name)).setCell ⟨i,2,none⟩ (nv)).setCell ⟨i,3,none⟩ (.slice none 0 0)).setCell ⟨i,4,none⟩ (.int .i64 y.kind)).setCell ⟨i,5,none⟩ (.bool y.flag)).setCell ⟨i,6,none⟩ (.bool y.neg)).setCell ⟨i,7,none⟩ (.string y.dig)).setCell ⟨i,8,none⟩ (.int .i64 y.exp)).setCell ⟨i,9,none⟩ (.int .u64 y.bits)).setCell ⟨i,10,none⟩ (.string y.text)).setCell ⟨i,11,none⟩ (.slice none 0 0)).setCell ⟨i,12,none⟩ (.slice none 0 0)).heap[w.heap.size + 1]?=nd∧(((((((((((((W.setCell ⟨i,0,none⟩ (.int .i64 h.op)).setCell ⟨i,1,none⟩ (.string h.name)).setCell ⟨i,2,none⟩ (nv)).setCell ⟨i,3,none⟩ (.slice none 0 0)).setCell ⟨i,4,none⟩ (.int .i64 y.kind)).setCell ⟨i,5,none⟩ (.bool y.flag)).setCell ⟨i,6,none⟩ (.bool y.neg)).setCell ⟨i,7,none⟩ (.string y.dig)).setCell ⟨i,8,none⟩ (.int .i64 y.exp)).setCell ⟨i,9,none⟩ (.int .u64 y.bits)).setCell ⟨i,10,none⟩ (.string y.text)).setCell ⟨i,11,none⟩ (.slice none 0 0)).setCell ⟨i,12,none⟩ (.slice none 0 0)).heap.size=W.heap.size:=by
 have p3:=put13 (d0:=.int .i64 h.op) (d1:=.string h.name) (d2:=nv) (d3:=.slice none 0 0) (d4:=.int .i64 y.kind) (d5:=.bool y.flag) (d6:=.bool y.neg) (d7:=.string y.dig) (d8:=.int .i64 y.exp) (d9:=.int .u64 y.bits) (d10:=.string y.text) (d11:=.slice none 0 0) (d12:=.slice none 0 0) hz
 have low:∀ k,k≠i→(((((((((((((W.setCell ⟨i,0,none⟩ (.int .i64 h.op)).setCell ⟨i,1,none⟩ (.string h.name)).setCell ⟨i,2,none⟩ (nv)).setCell ⟨i,3,none⟩ (.slice none 0 0)).setCell ⟨i,4,none⟩ (.int .i64 y.kind)).setCell ⟨i,5,none⟩ (.bool y.flag)).setCell ⟨i,6,none⟩ (.bool y.neg)).setCell ⟨i,7,none⟩ (.string y.dig)).setCell ⟨i,8,none⟩ (.int .i64 y.exp)).setCell ⟨i,9,none⟩ (.int .u64 y.bits)).setCell ⟨i,10,none⟩ (.string y.text)).setCell ⟨i,11,none⟩ (.slice none 0 0)).setCell ⟨i,12,none⟩ (.slice none 0 0)).heap[k]?=W.heap[k]?:=fun k hk=>by
  iterate 13 (rw [Below.heap_setCell _ _ _ _ (by show k≠i;exact hk)])
 have sz:(((((((((((((W.setCell ⟨i,0,none⟩ (.int .i64 h.op)).setCell ⟨i,1,none⟩ (.string h.name)).setCell ⟨i,2,none⟩ (nv)).setCell ⟨i,3,none⟩ (.slice none 0 0)).setCell ⟨i,4,none⟩ (.int .i64 y.kind)).setCell ⟨i,5,none⟩ (.bool y.flag)).setCell ⟨i,6,none⟩ (.bool y.neg)).setCell ⟨i,7,none⟩ (.string y.dig)).setCell ⟨i,8,none⟩ (.int .i64 y.exp)).setCell ⟨i,9,none⟩ (.int .u64 y.bits)).setCell ⟨i,10,none⟩ (.string y.text)).setCell ⟨i,11,none⟩ (.slice none 0 0)).setCell ⟨i,12,none⟩ (.slice none 0 0)).heap.size=W.heap.size:=by simp
 have bel:Below w.heap.size w (((((((((((((W.setCell ⟨i,0,none⟩ (.int .i64 h.op)).setCell ⟨i,1,none⟩ (.string h.name)).setCell ⟨i,2,none⟩ (nv)).setCell ⟨i,3,none⟩ (.slice none 0 0)).setCell ⟨i,4,none⟩ (.int .i64 y.kind)).setCell ⟨i,5,none⟩ (.bool y.flag)).setCell ⟨i,6,none⟩ (.bool y.neg)).setCell ⟨i,7,none⟩ (.string y.dig)).setCell ⟨i,8,none⟩ (.int .i64 y.exp)).setCell ⟨i,9,none⟩ (.int .u64 y.bits)).setCell ⟨i,10,none⟩ (.string y.text)).setCell ⟨i,11,none⟩ (.slice none 0 0)).setCell ⟨i,12,none⟩ (.slice none 0 0)):=by
  iterate 13 (refine Below.setCell ?_ (by show w.heap.size≤i;omega) _)
  exact hb
 generalize (((((((((((((W.setCell ⟨i,0,none⟩ (.int .i64 h.op)).setCell ⟨i,1,none⟩ (.string h.name)).setCell ⟨i,2,none⟩ (nv)).setCell ⟨i,3,none⟩ (.slice none 0 0)).setCell ⟨i,4,none⟩ (.int .i64 y.kind)).setCell ⟨i,5,none⟩ (.bool y.flag)).setCell ⟨i,6,none⟩ (.bool y.neg)).setCell ⟨i,7,none⟩ (.string y.dig)).setCell ⟨i,8,none⟩ (.int .i64 y.exp)).setCell ⟨i,9,none⟩ (.int .u64 y.bits)).setCell ⟨i,10,none⟩ (.string y.text)).setCell ⟨i,11,none⟩ (.slice none 0 0)).setCell ⟨i,12,none⟩ (.slice none 0 0))=Y at p3 low sz bel ⊢
 refine ⟨⟨bel,?_,⟨lo,(Array.getElem?_eq_some_iff.1 hz).1⟩,?_,(low _ (by omega)).trans res⟩,(low _ (by omega)).trans hn,sz⟩
 ·rw [p3]
  subst hy
  rfl
 ·refine ownsRow_of own fun k hk hl=>low k ?_
  rintro rfl
  obtain ⟨cur,hc⟩:=row_kind own hk
  rw [hz] at hc
  have:=Option.some.inj hc
  injection this with _ e _
  exact absurd e (by decide)
theorem mai_new {w W:World} {h:Eh} {y:Hd} {av:Option Addr} {c:Nat} {nd:Option Obj} (hy:vhd h.vn h.val=y) (hb:Below w.heap.size w W) (lo:w.heap.size + 2≤W.heap.size) (own:OwnS W (w.heap.size + 2) (.slice av h.names.length c) h.names) (res:ZE W w.heap.size) (hn:W.heap[w.heap.size + 1]?=nd) :
  Hid (MaI w h (.slice av h.names.length c) (.slice none 0 0) W.heap.size (W.alloc (.cells #[.int .i64 h.op,.string h.name,.slice av h.names.length c,.slice none 0 0,.int .i64 y.kind,.bool y.flag,.bool y.neg,.string y.dig,.int .i64 y.exp,.int .u64 y.bits,.string y.text,.slice none 0 0,.slice none 0 0] 33)).heap.size (W.alloc (.cells #[.int .i64 h.op,.string h.name,.slice av h.names.length c,.slice none 0 0,.int .i64 y.kind,.bool y.flag,.bool y.neg,.string y.dig,.int .i64 y.exp,.int .u64 y.bits,.string y.text,.slice none 0 0,.slice none 0 0] 33))∧(W.alloc (.cells #[.int .i64 h.op,.string h.name,.slice av h.names.length c,.slice none 0 0,.int .i64 y.kind,.bool y.flag,.bool y.neg,.string y.dig,.int .i64 y.exp,.int .u64 y.bits,.string y.text,.slice none 0 0,.slice none 0 0] 33)).heap[w.heap.size + 1]?=nd):=by
 refine ⟨⟨below_al hb,?_,⟨lo,by simp⟩,ownsRow_of own fun k hk hl=>Below.heap_alloc _ _ _ hl,low_at3 (by omega) res⟩,low_at3 (by omega) hn⟩
 subst hy
 exact last_at3 rfl
theorem mai_fin {w Y:World} {h:Eh} {nv lv:Value} {i L:Nat} {P:Prop} (k:MaI w h nv lv i L Y∧P∧Y.heap.size=L):Hid (MaI w h nv lv i Y.heap.size Y∧P):=by
 obtain ⟨a,b,rfl⟩:=k
 exact ⟨a,b⟩
theorem push_fin {n L k i6:Nat} {wr w2 w4:World} {v v':Value} {ts:List (ET n)} {q:Sl} {xs:List Value} (hx:wr.ownsRow L 33 13 v (ts.take k).length xs)
  (hall:∀ j (h:j<(ts.take k).length),∃ q s e,KE n wr (ts.take k)[j] q s e∧L≤s∧(∀ g,v.ownBlock=some g→g<s∨e≤g)∧∀ r u,(ecl (ehd n (ts.take k)[j]) q).toList[r]?=some u→xs[j * 13 + r]?=some u)
  (hL:L≤wr.heap.size) {hk:k<ts.length} (hc:KE n w2 ts[k] q wr.heap.size w2.heap.size) (hb:Below wr.heap.size wr w2) {o:Obj} (hg:(w2.alloc o).grownBy w4 v.ownBlock)
  (ho:w4.ownsRow L 33 13 v' ((ts.take k).length + 1) (xs++(ecl (ehd n ts[k]) q).toList)) (hat:v'.ownBlock=v.ownBlock∨v'.ownBlock=some (w2.alloc o).heap.size) (hk':k<ts.length) (hi:i6<L) {u:Value}:ER n L (w4.setCell ⟨i6,3,none⟩ u) v' (ts.take (k + 1)):=by
 rw [List.take_succ_eq_append_getElem hk']
 have P:=ER.push (w2:=w2) (w3:=w2.alloc o) (w4:=w4) hx hall hL (Nat.le_refl _) hc (by simp) (fun j h1 h2=>(Below.heap_alloc _ _ _ (by have:=hb.size;omega)).trans (hb.block j h2)) (fun j h1 h2=>Below.heap_alloc _ _ _ h2) hg ho hat
 exact P.keep (by simp) fun j h1 _=>Below.heap_setCell _ _ _ _ (by show j≠i6;omega)
theorem fb_fin {wc wr w2 w4:World} {row:Option Nat} {i6 j:Nat} {u:Value} (h:FB i6 wc wr) (hb:Below wr.heap.size wr w2) {o:Obj} (hg:(w2.alloc o).grownBy w4 row) (hr:∀ g,row=some g→wc.heap.size≤g):FB i6 wc (w4.setCell ⟨i6,j,none⟩ u):=by
 have k:=((h.then hb).al (o:=o)).grown hg hr
 exact ⟨k.os,k.tape,k.output,by simpa using k.size,fun a ha hn=>(Below.heap_setCell _ _ _ _ (by show a≠i6;exact hn)).trans (k.blk a ha hn)⟩
theorem ke_fin {n:Nat} {w wc wr Y:World} {h:Eh} {nv lv lv0:Value} {ts:List (ET n)} {i6:Nat} (m:MaI w h nv lv0 i6 wc.heap.size wc) (hf:FB i6 wc wr) (he:ER n wc.heap.size wr lv ts) (hs:Y.heap.size=wr.heap.size) (hlow:∀ j,j≠w.heap.size→Y.heap[j]?=wr.heap[j]?) :
  Hid (KE (n + 1) Y ((bareH h,ts):ET (n + 1)) ⟨nv,lv,.slice none 0 0,.slice none 0 0⟩ w.heap.size Y.heap.size):=by
 have h1:=m.lo
 have h2:=hf.size
 refine ⟨by omega,Nat.le_refl _,fun W' h'=>⟨?_,?_,?_⟩⟩
 ·refine own_nlZ m.own fun j hj hl=>?_
  have hj1:=(World.ownsRow.lt m.own j hj).1
  have hn:j≠i6:=by
   rintro rfl
   obtain ⟨cur,hc⟩:=row_kind m.own hj
   rw [m.ex] at hc
   have:=Option.some.inj hc
   injection this with _ e _
   exact absurd e (by decide)
  rw [h' j (by omega) (by omega),hlow j (by omega),hf.blk j hl hn]
 ·exact ⟨Or.inl ⟨rfl,rfl⟩,Or.inl ⟨rfl,rfl⟩⟩
 ·exact he.el fun j g1 g2=>by rw [h' j (by omega) (by omega),hlow j (by omega)]
set_option maxHeartbeats 6000000 in
set_option maxRecDepth 100000 in
theorem mapAt_step (n:Nat) (l:List Nd) (i:Nat) (hi:i<l.length) (h:Eh) (kids:List Int) (hd:l[i]=⟨h,kids⟩) (ts:List (ET n)) (v:Value) (w:World) (hl:NdL w v l) (hm:l.length≤100000) (hnm:h.names.length≤200000) (hk:kids.length≤100000) (ht:ts.length=kids.length)
  (hcall:∀ j (h1:j<kids.length) (h2:j<ts.length) W,Below w.heap.size w W→Calls Tryz.prog 60 #[v,.int .i64 kids[j]] W fun e w'=>∃ q',e=.returned (.agg (ecl (ehd n ts[j]) q'))∧Hid (KE n w' ts[j] q' W.heap.size w'.heap.size)∧Below W.heap.size W w') :
  Calls Tryz.prog 60 #[v,.int .i64 i] w fun e w'=>∃ q',e=.returned (.agg (ecl (bareH h) q'))∧Hid (KE (n + 1) w' ((bareH h,ts):ET (n + 1)) q' w.heap.size w'.heap.size)∧Below w.heap.size w w':=by
 obtain ⟨b,o,cc,rfl,hbl,_,_,s,hrg,hrd⟩:=hl.at i hi
 rw [hd] at hrg hrd
 obtain ⟨a1,c1,a2,c2,x3,y3,z3,x4,y4,z4,hqs⟩:=hrd.shape
 subst hqs
 have r0:=range13 hrg
 have KD:=hide hrd.2.2
 have hn:=hide hrd.1
 have HC:=hide hcall
 have hii:(i:Int)<(l.length:Int):=by omega
 have hi0:(0:Int)≤(i:Int):=by omega
 obtain ⟨N,hN⟩:∃ N,l.length=N:=⟨_,rfl⟩
 rw [hN] at hm hii HC ⊢
 clear hl hrg hrd hcall hN hd hi
 simp only at r0 KD hn
 obtain ⟨M,hM⟩:∃ M,kids.length=M:=⟨_,rfl⟩
 rw [hM] at r0
 have HM:=hide hM
 clear hM
 have R:=hide (fun W (hb:Below w.heap.size w W)=>renewed_any (.slice a1 h.names.length c1) h.names W (hn.out.below hb) hnm)
 have Bv:=hide (fun W=>bare_any (vhd h.vn h.val) x3 y3 z3 x4 y4 z4 W)
 unfold vals at Bv
 obtain ⟨y,hy⟩:∃ y,vhd h.vn h.val=y:=⟨_,rfl⟩
 have HY:=hide hy
 rw [hy] at Bv r0
 clear hy hn
 have N0:Hid (((w.alloc (.cells #[.int .i64 0,.string ⟨#[]⟩,.slice none 0 0,.slice none 0 0,.int .i64 0,.bool false,.bool false,.string ⟨#[]⟩,.int .i64 0,.int .u64 0,.string ⟨#[]⟩,.slice none 0 0,.slice none 0 0] 33)).alloc (.cells #[.int .i64 h.op,.string h.name,.slice a1 h.names.length c1,.slice a2 M c2,.int .i64 y.kind,.bool y.flag,.bool y.neg,.string y.dig,.int .i64 y.exp,.int .u64 y.bits,.string y.text,.slice x3 y3 z3,.slice x4 y4 z4] 67)).drew.heap[w.heap.size + 1]?=some (.cells #[.int .i64 h.op,.string h.name,.slice a1 h.names.length c1,.slice a2 M c2,.int .i64 y.kind,.bool y.flag,.bool y.neg,.string y.dig,.int .i64 y.exp,.int .u64 y.bits,.string y.text,.slice x3 y3 z3,.slice x4 y4 z4] 67 (0,0))):=last_at3 (by simp)
 have E0:Hid (∀ W:World,W.heap[w.heap.size + 1]?=some (.cells #[.int .i64 h.op,.string h.name,.slice a1 h.names.length c1,.slice a2 M c2,.int .i64 y.kind,.bool y.flag,.bool y.neg,.string y.dig,.int .i64 y.exp,.int .u64 y.bits,.string y.text,.slice x3 y3 z3,.slice x4 y4 z4] 67 (0,0))→W.cell? ⟨w.heap.size + 1,0,none⟩=some (.int .i64 h.op)∧W.cell? ⟨w.heap.size + 1,1,none⟩=some (.string h.name)∧W.cell? ⟨w.heap.size + 1,2,none⟩=some (.slice a1 h.names.length c1)∧W.cell? ⟨w.heap.size + 1,3,none⟩=some (.slice a2 M c2)∧W.cell? ⟨w.heap.size + 1,4,none⟩=some (.int .i64 y.kind)∧W.cell? ⟨w.heap.size + 1,5,none⟩=some (.bool y.flag)∧W.cell? ⟨w.heap.size + 1,6,none⟩=some (.bool y.neg)∧W.cell? ⟨w.heap.size + 1,7,none⟩=some (.string y.dig)∧W.cell? ⟨w.heap.size + 1,8,none⟩=some (.int .i64 y.exp)∧W.cell? ⟨w.heap.size + 1,9,none⟩=some (.int .u64 y.bits)∧W.cell? ⟨w.heap.size + 1,10,none⟩=some (.string y.text)∧W.cell? ⟨w.heap.size + 1,11,none⟩=some (.slice x3 y3 z3)∧W.cell? ⟨w.heap.size + 1,12,none⟩=some (.slice x4 y4 z4)):=by
  intro W hW
  refine ⟨?_,?_,?_,?_,?_,?_,?_,?_,?_,?_,?_,?_,?_⟩
  iterate 13 (unfold World.cell?;rw [hW];rfl)
 go_enter Tryz.func60, Tryz.ntmps60
 go_upto_region 2 with fail
 go_cut [6] (fun s6 wx=>∃ (i6:Nat) (av:Option Addr) (c:Nat),s6=.pointer (some ⟨i6,0,none⟩)∧Hid (MaI w h (.slice av h.names.length c) (.slice none 0 0) i6 wx.heap.size wx∧wx.heap[w.heap.size + 1]?=some (.cells #[.int .i64 h.op,.string h.name,.slice a1 h.names.length c1,.slice a2 M c2,.int .i64 y.kind,.bool y.flag,.bool y.neg,.string y.dig,.int .i64 y.exp,.int .u64 y.bits,.string y.text,.slice x3 y3 z3,.slice x4 y4 z4] 67 (0,0))))
 case first =>
  have ZZ:Hid (ZE (((w.alloc (.cells #[.int .i64 0,.string ⟨#[]⟩,.slice none 0 0,.slice none 0 0,.int .i64 0,.bool false,.bool false,.string ⟨#[]⟩,.int .i64 0,.int .u64 0,.string ⟨#[]⟩,.slice none 0 0,.slice none 0 0] 33)).alloc (.cells #[.int .i64 h.op,.string h.name,.slice a1 h.names.length c1,.slice a2 M c2,.int .i64 y.kind,.bool y.flag,.bool y.neg,.string y.dig,.int .i64 y.exp,.int .u64 y.bits,.string y.text,.slice x3 y3 z3,.slice x4 y4 z4] 67)).drew) w.heap.size):=low_at3 (by simp) (last_at3 rfl)
  go_region_held3 (fun W=>W.cell? ⟨w.heap.size + 1,0,none⟩=some (.int .i64 h.op)∧W.cell? ⟨w.heap.size + 1,1,none⟩=some (.string h.name)∧W.cell? ⟨w.heap.size + 1,2,none⟩=some (.slice a1 h.names.length c1)∧W.cell? ⟨w.heap.size + 1,3,none⟩=some (.slice a2 M c2)∧W.cell? ⟨w.heap.size + 1,4,none⟩=some (.int .i64 y.kind)∧W.cell? ⟨w.heap.size + 1,5,none⟩=some (.bool y.flag)∧W.cell? ⟨w.heap.size + 1,6,none⟩=some (.bool y.neg)∧W.cell? ⟨w.heap.size + 1,7,none⟩=some (.string y.dig)∧W.cell? ⟨w.heap.size + 1,8,none⟩=some (.int .i64 y.exp)∧W.cell? ⟨w.heap.size + 1,9,none⟩=some (.int .u64 y.bits)∧W.cell? ⟨w.heap.size + 1,10,none⟩=some (.string y.text)∧W.cell? ⟨w.heap.size + 1,11,none⟩=some (.slice x3 y3 z3)∧W.cell? ⟨w.heap.size + 1,12,none⟩=some (.slice x4 y4 z4)) (first|(refine E0.out _ ?_;(repeat (first|with_reducible (exact N0.out)|with_reducible (exact H1.out)|with_reducible (exact H2.out)|with_reducible (refine low_set3 (by omega) ?_)|with_reducible (refine low_at3d (by first|omega|(simp;done)|(simp;omega)) ?_)|with_reducible (refine low_at3 (by first|omega|(simp;done)|(simp;omega)) ?_))))) (first|(go_at_call 117;refine (R.out _ (by first|exact (below_al (below_al (Below.refl _ _))).drew|exact (below_al (below_al (below_al (Below.refl _ _)))).drew)).mono ?_;rintro e w1 ⟨av,c,rfl,ho,hb1⟩;have O1:=hide (ownRow_mono (L':=w.heap.size + 2) ho (by simp <;> omega));have b1:w.heap.size + 2≤w1.heap.size:=(by have b9:=hb1.size;first|(simp at b9;omega)|omega);have BB1:=hide (below_then (w:=w) (by first|exact (below_al (below_al (Below.refl _ _))).drew|exact (below_al (below_al (below_al (Below.refl _ _)))).drew) hb1);have H1:=hide ((hb1.block (w.heap.size + 1) (by simp <;> omega)).trans (by first|exact N0.out|exact low_at3 (by simp <;> omega) N0.out));have R1:=hide ((hb1.block w.heap.size (by simp <;> omega)).trans (by first|exact ZZ.out|exact low_at3 (by simp <;> omega) ZZ.out));(first|(have G1:Hid (w1.heap[w.heap.size + 2]?=some (.cells #[.int .i64 0,.string ⟨#[]⟩,.slice none 0 0,.slice none 0 0,.int .i64 0,.bool false,.bool false,.string ⟨#[]⟩,.int .i64 0,.int .u64 0,.string ⟨#[]⟩,.slice none 0 0,.slice none 0 0] 33 (0,0))):=(hb1.block (w.heap.size + 2) (by simp)).trans (last_at3 (by simp));have g1:=(zb_cells G1.out);have l1:=(Array.getElem?_eq_some_iff.1 G1.out).1)|skip);clear ho hb1)|(go_at_call 118;refine (Bv.out _).mono ?_;rintro e w2 ⟨rfl,hb2⟩;have b2:w1.heap.size≤w2.heap.size:=(by have b9:=hb2.size;first|exact b9|(simp at b9;omega));have BB2:=hide (below_then (w:=w) (by first|exact BB1.out|exact below_al BB1.out|exact (below_al BB1.out).drew) hb2);have O2:=hide (ownsRow_of (W1:=w2) O1.out fun k hk hl=>(hb2.block k (by first|exact hl|(simp;omega))).trans (by first|rfl|exact Below.heap_alloc _ _ _ hl));have H2:=hide ((hb2.block (w.heap.size + 1) (by first|omega|(simp;omega))).trans (by first|exact H1.out|exact low_at3 (by omega) H1.out));have R2:=hide ((hb2.block w.heap.size (by first|omega|(simp;omega))).trans (by first|exact R1.out|exact low_at3 (by omega) R1.out));(first|(have G2:=hide ((hb2.block (w.heap.size + 2) l1).trans G1.out);have g2:=zb_cells G2.out;have l2:=(Array.getElem?_eq_some_iff.1 G2.out).1)|(have G2:Hid (w2.heap[w1.heap.size]?=some (.cells #[.int .i64 0,.string ⟨#[]⟩,.slice none 0 0,.slice none 0 0,.int .i64 0,.bool false,.bool false,.string ⟨#[]⟩,.int .i64 0,.int .u64 0,.string ⟨#[]⟩,.slice none 0 0,.slice none 0 0] 33 (0,0))):=(hb2.block w1.heap.size (by simp)).trans (last_at3 rfl);have g2:=zb_cells G2.out;have l2:=(Array.getElem?_eq_some_iff.1 G2.out).1)|skip);clear hb2))
  all_goals (go_wp2_with fail;go_meet;refine ⟨_,av,c,rfl,?_⟩;first|(have k:=mai_end (w:=w) (i:=w1.heap.size) (nv:=.slice av h.names.length c) HY.out BB2.out G2.out (by omega) O2.out R2.out H2.out;exact mai_fin k)|(have k:=mai_end (w:=w) (i:=w.heap.size + 1 + 1) (nv:=.slice av h.names.length c) HY.out BB2.out G2.out (by omega) O2.out R2.out H2.out;exact mai_fin k)|exact mai_new (w:=w) HY.out BB2.out (by omega) O2.out R2.out H2.out)
 case rest =>
 obtain ⟨i6,av,c,rfl,HM6⟩:=hcut
 have hN6:=E0.out _ HM6.out.2
 have M1:=hide HM6.out.1
 have X6:Hid (∀ (lv:Value) (W:World),W.heap[i6]?=some (.cells (ecl (bareH h) ⟨.slice av h.names.length c,lv,.slice none 0 0,.slice none 0 0⟩) 33 (0,0))→W.cell? ⟨i6,3,none⟩=some lv∧W.frozen? ⟨i6,3,none⟩=false):=by
  intro lv W hW
  exact ⟨by unfold World.cell?;rw [hW];rfl,by simp [World.frozen?,hW]⟩
 have lo6:=M1.out.lo
 clear E0 N0 R Bv HM6
 go_wp2_with fail
 clear hN6
 go_loopw [27] (fun u W=>∃ (k:Nat) (lav:Option Addr) (lc:Nat),u=.int .i64 k∧k≤M∧Hid (ER n wc.heap.size W (.slice lav k lc) (ts.take k)∧FB i6 wc W∧W.heap[i6]?=some (.cells (ecl (bareH h) ⟨.slice av h.names.length c,.slice lav k lc,.slice none 0 0,.slice none 0 0⟩) 33 (0,0)))) (fun u _=>M - (intOf u).toNat)
 case atStart=>exact ⟨0,none,0,rfl,Nat.zero_le _,by simpa using ER.nil,FB.refl _ _,M1.out.ex⟩
 case round =>
  obtain ⟨k,lav,lc,rfl,hk2,H⟩:=hrel
  have bw:Hid (Below w.heap.size w wr):=M1.out.bel.trans (H.out.2.1.low (by omega) |>.mono (by have:=M1.out.bel.size;omega))
  by_cases hkl:k<M
  ·have hki:(k:Int)<(M:Int):=by omega
   have hkk:k<kids.length:=by have:=HM.out;omega
   have hkt:k<ts.length:=by have:=HM.out;omega
   obtain ⟨kb,ko,kc,hke,hkb,_,_,hkc⟩:=(KD.out.below bw.out).at k hkk
   have CAL:=hide (HC.out k hkk hkt)
   rw [HM.out] at hke
   obtain ⟨rfl, -,rfl⟩:=Value.slice.inj hke
   obtain ⟨kid,hkid⟩:∃ z,kids[k]=z:=⟨_,rfl⟩
   rw [hkid] at hkc CAL
   obtain ⟨yk,hyk⟩:∃ y,ehd n ts[k]=y:=⟨_,rfl⟩
   have HYK:=hide hyk
   rw [hyk] at CAL
   unfold ecl at CAL
   clear hyk
   obtain ⟨ck3,fk3⟩:=X6.out _ _ H.out.2.2
   have lk3:=(Array.getElem?_eq_some_iff.1 H.out.2.2).1
   clear hke hkid
   obtain ⟨xs,hx,hall⟩:=H.out.1
   have hlk:(ts.take k).length=k:=by simp;omega
   have Hx:=hide hx
   have Hall:=hide hall
   rw [hlk] at hx
   have Hx2:=hide hx
   have Hlk:=hide hlk
   clear hx hall hlk
   go_upto_region 6 with fail
   go_region_law (first|(go_simp;go_at_call 60;refine (CAL.out _ bw.out.drew).mono ?_;rintro e w2 ⟨q2,rfl,hk3,hb2⟩;obtain ⟨s1,s2,s3,s4,s5,s6,s7,s8,s9,s10,s11,s12,rfl⟩:=hk3.out.rd.shape;have K3:=hk3;have B2:=hide hb2;have E2:=hide ((hb2.block i6 lk3).trans H.out.2.2);have c2':=X6.out _ _ E2.out;have l2:=(Array.getElem?_eq_some_iff.1 E2.out).1;clear hk3 hb2)|(refine step_ex rfl (.tmp 32) (.tmp 36) rfl wc.heap.size (.slice lav k lc) k xs rfl (ownsRow_of Hx2.out fun g hg hlt=>(Below.heap_alloc _ _ _ (by have:=B2.out.size;simp at this;omega)).trans (B2.out.block g hlt)) w2.heap.size 1 rfl yk ⟨.slice s1 s2 s3,.slice s4 s5 s6,.slice s7 s8 s9,.slice s10 s11 s12⟩ rfl rfl rfl rfl new_rng (by omega) (by have:=B2.out.size;have:=H.out.2.1.size;simp at *;omega) ?_;intro av2 c22 w4 o4 g4 at4;have E4:=hide ((g4.out.block i6 (by simp;omega) (fun e=>by have:=(World.ownsRow.lt Hx2.out _ e.symm).1;omega)).trans (low_at3 l2 E2.out));have c4:=X6.out _ _ E4.out;have l4:=(Array.getElem?_eq_some_iff.1 E4.out).1))
   all_goals
    go_wp2_with fail
    have B3:=below_then (w:=wr) (Below.refl _ wr).drew B2.out
    have q1:=push_fin (i6:=i6) (u:=.slice av2 (k + 1) c22) (hk:=hkt) Hx.out Hall.out H.out.2.1.size K3.out B3 g4.out (by rw [Hlk.out,HYK.out];exact o4.out) at4.out hkt lo6.2
    have q2:=fb_fin (i6:=i6) (j:=3) (u:=.slice av2 (k + 1) c22) H.out.2.1 B3 g4.out (fun g hg=>(World.ownsRow.lt Hx2.out g hg).1)
    have q3:=blkT E4.out 3 (.slice av2 (k + 1) c22)
    exact ⟨⟨k + 1,av2,c22,by go_num,by omega,q1,q2,q3⟩,by simp [intOf];omega⟩
  ·have hki:¬ (k:Int)<(M:Int):=by omega
   obtain rfl:k=M:=by omega
   have c6:Hid (∀ (lv:Value) (W:World),W.heap[i6]?=some (.cells (ecl (bareH h) ⟨.slice av h.names.length c,lv,.slice none 0 0,.slice none 0 0⟩) 33 (0,0))→W.cell? ⟨i6,0,none⟩=some (.int .i64 h.op)∧W.cell? ⟨i6,1,none⟩=some (.string h.name)∧W.cell? ⟨i6,2,none⟩=some (.slice av h.names.length c)∧W.cell? ⟨i6,3,none⟩=some (lv)∧W.cell? ⟨i6,4,none⟩=some (.int .i64 y.kind)∧W.cell? ⟨i6,5,none⟩=some (.bool y.flag)∧W.cell? ⟨i6,6,none⟩=some (.bool y.neg)∧W.cell? ⟨i6,7,none⟩=some (.string y.dig)∧W.cell? ⟨i6,8,none⟩=some (.int .i64 y.exp)∧W.cell? ⟨i6,9,none⟩=some (.int .u64 y.bits)∧W.cell? ⟨i6,10,none⟩=some (.string y.text)∧W.cell? ⟨i6,11,none⟩=some (.slice none 0 0)∧W.cell? ⟨i6,12,none⟩=some (.slice none 0 0)):=by
    intro lv W hW
    rw [←HY.out]
    refine ⟨?_,?_,?_,?_,?_,?_,?_,?_,?_,?_,?_,?_,?_⟩
    iterate 13 (unfold World.cell?;rw [hW];rfl)
   have e6:=c6.out _ _ H.out.2.2
   have Z6:Hid (ZE wr w.heap.size):=(H.out.2.1.blk _ (by omega) (by omega)).trans M1.out.res
   have z6:=zb_cells Z6.out
   have lw6:=(Array.getElem?_eq_some_iff.1 Z6.out).1
   have hkt:ts.take k=ts:=List.take_of_length_le (by have:=HM.out;omega)
   have HE:=hide (show ER n wc.heap.size wr (.slice lav k lc) ts from by have:=H.out.1;rw [hkt] at this;exact this)
   clear c6 hkt
   go_wp2_with fail
   have p3:=put13 (d0:=.int .i64 h.op) (d1:=.string h.name) (d2:=.slice av h.names.length c) (d3:=.slice lav k lc) (d4:=.int .i64 y.kind) (d5:=.bool y.flag) (d6:=.bool y.neg) (d7:=.string y.dig) (d8:=.int .i64 y.exp) (d9:=.int .u64 y.bits) (d10:=.string y.text) (d11:=.slice none 0 0) (d12:=.slice none 0 0) (show wr.heap[w.heap.size]?=_ from Z6.out)
   generalize hY:World.setCell (World.setCell (World.setCell (World.setCell (World.setCell (World.setCell (World.setCell (World.setCell (World.setCell (World.setCell (World.setCell (World.setCell (World.setCell wr _ _) _ _) _ _) _ _) _ _) _ _) _ _) _ _) _ _) _ _) _ _) _ _) _ _=Y at p3 ⊢
   have low:∀ j,j≠w.heap.size→Y.heap[j]?=wr.heap[j]?:=fun j hj=>by
    rw [←hY]
    iterate 13 (rw [Below.heap_setCell _ _ _ _ (by show j≠w.heap.size;exact hj)])
   have sz:Y.heap.size=wr.heap.size:=by rw [←hY];simp
   have bY:Below w.heap.size w Y:=by
    rw [←hY]
    iterate 13 (refine Below.setCell ?_ (by show w.heap.size≤w.heap.size;exact Nat.le_refl _) _)
    exact bw.out
   have y0:Y.cell? ⟨w.heap.size,0,none⟩=some (.int .i64 h.op)∧Y.cell? ⟨w.heap.size,1,none⟩=some (.string h.name)∧Y.cell? ⟨w.heap.size,2,none⟩=some (.slice av h.names.length c)∧Y.cell? ⟨w.heap.size,3,none⟩=some (.slice lav k lc)∧Y.cell? ⟨w.heap.size,4,none⟩=some (.int .i64 y.kind)∧Y.cell? ⟨w.heap.size,5,none⟩=some (.bool y.flag)∧Y.cell? ⟨w.heap.size,6,none⟩=some (.bool y.neg)∧Y.cell? ⟨w.heap.size,7,none⟩=some (.string y.dig)∧Y.cell? ⟨w.heap.size,8,none⟩=some (.int .i64 y.exp)∧Y.cell? ⟨w.heap.size,9,none⟩=some (.int .u64 y.bits)∧Y.cell? ⟨w.heap.size,10,none⟩=some (.string y.text)∧Y.cell? ⟨w.heap.size,11,none⟩=some (.slice none 0 0)∧Y.cell? ⟨w.heap.size,12,none⟩=some (.slice none 0 0):=by
    refine ⟨?_,?_,?_,?_,?_,?_,?_,?_,?_,?_,?_,?_,?_⟩
    iterate 13 (unfold World.cell?;rw [p3];rfl)
   have KF:=ke_fin M1.out H.out.2.1 HE.out sz low
   clear hY z6 e6 p3
   refine bodyPost_ret (v:=.agg #[.int .i64 h.op,.string h.name,.slice av h.names.length c,.slice lav k lc,.int .i64 y.kind,.bool y.flag,.bool y.neg,.string y.dig,.int .i64 y.exp,.int .u64 y.bits,.string y.text,.slice none 0 0,.slice none 0 0]) (by simp [results,Tryz.results60,go_sem,y0]) rfl ⟨⟨.slice av h.names.length c,.slice lav k lc,.slice none 0 0,.slice none 0 0⟩,?_,KF,bY⟩
   rw [←HY.out]
   rfl
theorem mapAt_any (z:Eh) (l:List Nd) (hk:∀ p (h:p<l.length),∀ k∈l[p].kids,(p:Int)<k∧k<(l.length:Int)) (hm:l.length≤100000) (hn:∀ d∈l,d.h.names.length≤200000∧d.kids.length≤100000):∀ (f i:Nat) (v:Value) (w:World),NdL w v l→i<l.length→l.length≤i + 1 + f →
  Calls Tryz.prog 60 #[v,.int .i64 i] w fun e w'=>∃ q',e=.returned (.agg (ecl (ehd _ (mpA (bareH z) (l.map bareN) f i)) q'))∧Hid (KE (f + 1) w' (mpA (bareH z) (l.map bareN) f i) q' w.heap.size w'.heap.size)∧Below w.heap.size w w'
 | 0,i,v,w,hl,hi,hf=>by
  have hd:(l.map bareN).getD i (ndz (bareH z))=bareN l[i]:=by rw [List.getD_eq_getElem?_getD,List.getElem?_map,List.getElem?_eq_getElem hi];rfl
  have hkn:l[i].kids=[]:=by
   cases hc:l[i].kids with
   | nil=>rfl
   | cons k ks =>
    have:=hk i hi k (by rw [hc];exact List.mem_cons_self ..)
    omega
  have e:mpA (bareH z) (l.map bareN) 0 i=(bareH l[i].h,[]):=by show (((l.map bareN).getD i (ndz (bareH z))).h,_)=_;rw [hd];rfl
  rw [e]
  exact mapAt_step 0 l i hi l[i].h l[i].kids rfl [] v w hl hm (hn _ (List.getElem_mem hi)).1 (hn _ (List.getElem_mem hi)).2 (by rw [hkn];rfl) fun j h1=>absurd h1 (by rw [hkn];simp)
 | f + 1,i,v,w,hl,hi,hf=>by
  have hd:(l.map bareN).getD i (ndz (bareH z))=bareN l[i]:=by rw [List.getD_eq_getElem?_getD,List.getElem?_map,List.getElem?_eq_getElem hi];rfl
  have e:mpA (bareH z) (l.map bareN) (f + 1) i=(bareH l[i].h,l[i].kids.map fun k=>mpA (bareH z) (l.map bareN) f k.toNat):=by
   show (((l.map bareN).getD i (ndz (bareH z))).h,((l.map bareN).getD i (ndz (bareH z))).kids.map _)=_
   rw [hd]
   rfl
  rw [e]
  refine mapAt_step (f + 1) l i hi l[i].h l[i].kids rfl _ v w hl hm (hn _ (List.getElem_mem hi)).1 (hn _ (List.getElem_mem hi)).2 (by rw [List.length_map]) fun j h1 h2 W hb=>?_
  have hkj:=hk i hi l[i].kids[j] (List.getElem_mem h1)
  have ej:l[i].kids[j]=((l[i].kids[j].toNat:Nat):Int):=by omega
  rw [List.getElem_map]
  have:=mapAt_any z l hk hm hn f l[i].kids[j].toNat v W (hl.below hb) (by omega) (by omega)
  rw [←ej] at this
  exact this
end Lx
end Go.Proofs.YtgicnopppgnjjaaGreatDoor
