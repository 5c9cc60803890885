/- Merged by program: CoLay, CoLayB. -/
import Derived.Test.YtgicnopppgnjjaaGreatDoorZd39
import Derived.Test.YtgicnopppgnjjaaGreatDoorZd29
import Derived.Deep.DeepCutAuto
import Derived.Deep.RegionLaw
set_option linter.unusedSimpArgs false
set_option linter.unusedVariables false
namespace Go.Proofs.YtgicnopppgnjjaaGreatDoor
namespace Lx
open Go.RowKit
def layV (B D:Nat):Value:=.func (.func 55) #[] #[.pointer (some ⟨B,0,none⟩),.pointer (some ⟨D,0,none⟩)]
structure Vr (W:World) (B D:Nat) (v:Value):Prop where
 row:W.heap[B]?=some (.cells #[v] 53 (0,0))
 lay:W.heap[D]?=some (.cells #[layV B D] 89 (0,0))
theorem Vr.cells {W:World} {B D:Nat} {v:Value} (h:Vr W B D v):W.cell? ⟨B,0,none⟩=some v∧W.frozen? ⟨B,0,none⟩=false∧W.cell? ⟨D,0,none⟩=some (layV B D):=by
 refine ⟨?_,?_,?_⟩
 ·unfold World.cell?;rw [h.row];rfl
 ·simp [World.frozen?,h.row]
 ·unfold World.cell?;rw [h.lay];rfl
theorem Vr.lt {W:World} {B D:Nat} {v:Value} (h:Vr W B D v):B<W.heap.size∧D<W.heap.size:=⟨(Array.getElem?_eq_some_iff.1 h.row).1,(Array.getElem?_eq_some_iff.1 h.lay).1⟩
theorem Vr.ne {W:World} {B D:Nat} {v:Value} (h:Vr W B D v):B≠D:=by
 rintro rfl
 have:=h.row
 rw [h.lay] at this
 have:=Option.some.inj this
 injection this with _ e _
 exact absurd e (by decide)
theorem Vr.below {W W1:World} {B D:Nat} {v:Value} (h:Vr W B D v) (hb:Below W.heap.size W W1):Vr W1 B D v:=⟨(hb.block _ h.lt.1).trans h.row,(hb.block _ h.lt.2).trans h.lay⟩
theorem Vr.al {W:World} {B D:Nat} {v:Value} {o:Obj} (h:Vr W B D v):Vr (W.alloc o) B D v:=h.below (below_al (Below.refl _ _))
theorem Vr.grown {W W1:World} {B D:Nat} {v:Value} {row:Option Nat} (h:Vr W B D v) (hg:W.grownBy W1 row) (hr:∀ g,row=some g→g≠B∧g≠D):Vr W1 B D v:=⟨(hg.block _ h.lt.1 (fun e=>(hr B e.symm).1 rfl)).trans h.row,(hg.block _ h.lt.2 (fun e=>(hr D e.symm).2 rfl)).trans h.lay⟩
theorem Vr.put {W:World} {B D:Nat} {v u:Value} (h:Vr W B D v):Vr (W.setCell ⟨B,0,none⟩ u) B D u:=⟨by have:=blkT h.row 0 u;simpa using this,(Below.heap_setCell _ _ _ _ (by show D≠B;exact Ne.symm h.ne)).trans h.lay⟩
theorem Vr.set {W:World} {B D i o:Nat} {v u:Value} (h:Vr W B D v) (h1:i≠B) (h2:i≠D):Vr (W.setCell ⟨i,o,none⟩ u) B D v:=⟨(Below.heap_setCell _ _ _ _ (by show B≠i;exact Ne.symm h1)).trans h.row,(Below.heap_setCell _ _ _ _ (by show D≠i;exact Ne.symm h2)).trans h.lay⟩
theorem Vr.not {W:World} {B D L n:Nat} {v u:Value} {T:TypeId} {sz:Nat} {xs:List Value} (h:Vr W B D v) (hT:T≠53∧T≠89) (hx:W.ownsRow L T sz u n xs):∀ g,u.ownBlock=some g→g≠B∧g≠D:=by
 intro g hg
 obtain ⟨cur,hc⟩:=row_kind hx hg
 refine ⟨?_,?_⟩
 ·rintro rfl
  rw [h.row] at hc
  have:=Option.some.inj hc
  injection this with _ e _
  exact hT.1 e.symm
 ·rintro rfl
  rw [h.lay] at hc
  have:=Option.some.inj hc
  injection this with _ e _
  exact hT.2 e.symm
def LayP (n:Nat) (x:ET n) (L B D N:Nat) (v:Value) (xs:List Value) (w:World) (e:Ending) (w':World):Prop :=
 e=.returned (.tuple #[])∧∃ v' ys,Vr w' B D v'∧NT L w.heap.size w' v' N xs ((prg n x N).map bareN) ys∧FL B v.ownBlock w w'∧(v'.ownBlock=v.ownBlock∨∀ g,v'.ownBlock=some g→w.heap.size≤g)
theorem prg_map (n:Nat) (h:Eh) (l:List (ET n)) (N:Nat):(prg (n + 1) ((h,l):ET (n + 1)) N).map bareN=⟨bareH h,kds (l.map (esiz n)) (N + 1)⟩ :: (prl (prg n) (esiz n) l (N + 1)).map bareN:=rfl
theorem LayP.mk {n:Nat} {x:ET n} {L B D N:Nat} {v v':Value} {xs ys:List Value} {w w':World} {l:List Nd} (e:(prg n x N).map bareN=l) (h1:Vr w' B D v') (h2:NT L w.heap.size w' v' N xs l ys) (h3:FL B v.ownBlock w w') (h4:v'.ownBlock=v.ownBlock∨∀ g,v'.ownBlock=some g→w.heap.size≤g):LayP n x L B D N v xs w (.returned (.tuple #[])) w' :=
 ⟨rfl,v',ys,h1,by rw [e];exact h2,h3,h4⟩
def LayOk (n:Nat):Prop:=∀ (x:ET n) (q:Sl) (w0 w:World) (B D L N:Nat) (v:Value) (xs:List Value),RE n w0 x q→Below w0.heap.size w0 w→w0.heap.size≤L→w0.heap.size≤B→L≤w.heap.size→Vr w B D v→w.ownsRow L 67 13 v N xs→N + esiz n x≤100000→GE n x →
 Calls Tryz.prog 55 #[.agg (ecl (ehd n x) q),.pointer (some ⟨B,0,none⟩),.pointer (some ⟨D,0,none⟩)] w fun e w'=>LayP n x L B D N v xs w e w'
structure LyS (w:World) (B D L N:Nat) (h:Eh) (v:Value) (xs:List Value) (ks:List Int) (zs:List Nd) (W:World) (v1:Value) (s0:Sl) (ys:List Value):Prop where
 vr:Vr W B D v1
 nh:NH L w.heap.size W v1 N xs (bareH h) ks s0 zs ys
 fl:FL B v.ownBlock w W
 at_:v1.ownBlock=v.ownBlock∨∀ g,v1.ownBlock=some g→w.heap.size≤g
section
variable {n : Nat} {w w0 : World} {B D L N : Nat} {v : Value} {xs : List Value}
theorem LyS.start {W1 W2 W3:World} {h:Eh} {v1:Value} {nv:Value} (V:Vr w B D v) (hx:w.ownsRow L 67 13 v N xs) (hLw:L≤w.heap.size) (h1:Below w.heap.size w W1) (ho:OwnS W1 w.heap.size nv h.names) (h2:W1.heap.size≤W2.heap.size) (hb2:∀ k,k<W1.heap.size→W2.heap[k]?=W1.heap[k]?) (e2:W2.os=W1.os∧W2.tape=W1.tape∧W2.output=W1.output)
  (hg:W2.grownBy W3 v.ownBlock) (hr:W3.ownsRow L 67 13 v1 (N + 1) (xs++(ecl (bareH h) ⟨nv,.slice none 0 0,.slice none 0 0,.slice none 0 0⟩).toList)) (hat:v1.ownBlock=v.ownBlock∨v1.ownBlock=some W2.heap.size) :
  LyS w B D L N h v xs [] [] (W3.setCell ⟨B,0,none⟩ v1) v1 ⟨nv,.slice none 0 0,.slice none 0 0,.slice none 0 0⟩ []:=by
 have B2:Below w.heap.size w W2:=⟨e2.1.trans h1.os,e2.2.1.trans h1.tape,e2.2.2.trans h1.output,Nat.le_trans h1.size h2,fun k hk=>(hb2 k (Nat.lt_of_lt_of_le hk h1.size)).trans (h1.block k hk)⟩
 have V2:=V.below B2
 have hn:=V.not (by decide) hx
 have V3:Vr W3 B D v:=V2.grown hg hn
 have hn1:=V3.not (by decide) hr
 have f3:FL B v.ownBlock w W3:=(FL.of B2).grown hg fun g hg=>Or.inl hg
 have z1:=h1.size
 have ns3:OwnS (W3.setCell ⟨B,0,none⟩ v1) w.heap.size nv h.names:=by
  refine ownsRow_of ho fun k hk hl=>?_
  have hkl:=(World.ownsRow.lt ho k hk).1
  rw [Below.heap_setCell _ _ _ _ (by show k≠B;have:=V.lt.1;omega),hg.block k (by omega) (fun e=>by have:=(World.ownsRow.lt hx k e.symm).2;omega),hb2 k hl]
 refine ⟨V3.put,⟨?_,?_,⟨ns3,World.ownsRow_nil _ _ _ _,rfl,rfl⟩,fun j hj=>absurd hj (by simp)⟩,f3.set (Or.inl rfl),?_⟩
 ·simp only [List.length_nil,Nat.add_zero,List.append_nil]
  exact ownsRow_of hr fun k hk hl=>Below.heap_setCell _ _ _ _ (by show k≠B;exact (hn1 k hk).1)
 ·have:=hx.1;exact this
 ·rcases hat with h|h
  ·exact Or.inl h
  ·refine Or.inr fun g hg'=>?_
   rw [h] at hg'
   cases hg'
   omega
theorem LyS.low {h:Eh} {ks:List Int} {zs:List Nd} {W:World} {v1:Value} {s0:Sl} {ys:List Value} (H:LyS w B D L N h v xs ks zs W v1 s0 ys) (hb0:Below w0.heap.size w0 w) (hL:w0.heap.size≤L) (hB:w0.heap.size≤B) (hx:w.ownsRow L 67 13 v N xs):Below w0.heap.size w0 W:=by
 have:=H.fl.low (n:=w0.heap.size) hb0.size hB (fun g hg=>by have:=(World.ownsRow.lt hx g hg).1;omega)
 exact hb0.trans this
theorem LyS.shape {h:Eh} {ks:List Int} {zs:List Nd} {W:World} {v1:Value} {s0:Sl} {ys:List Value} (H:LyS w B D L N h v xs ks zs W v1 s0 ys):∃ g cap,v1=.slice (some ⟨g,0,none⟩) (N + (1 + zs.length)) cap∧W.cell? ⟨g,N * 13 + 3,none⟩=some s0.ls∧W.frozen? ⟨g,N * 13 + 3,none⟩=false∧g≠B∧g≠D∧g<W.heap.size:=by
 have hr:=H.nh.row
 obtain ⟨g,cap,e⟩:=ownsRow_succ (n:=N + zs.length) (by rw [show N + zs.length + 1=N + (1 + zs.length) by omega];exact hr)
 rw [show N + zs.length + 1=N + (1 + zs.length) by omega] at e
 subst e
 have hn:=H.vr.not (by decide) hr g rfl
 obtain ⟨cur,hc⟩:=row_kind hr (g:=g) rfl
 refine ⟨g,cap,rfl,?_,by simp [World.frozen?,hc],hn.1,hn.2,(World.ownsRow.lt hr g rfl).2⟩
 rw [World.ownsRow.cellAt hr _ (by omega),List.getElem?_append_right (by rw [H.nh.xl];omega),H.nh.xl,Nat.add_sub_cancel_left,List.getElem?_append_left (by rw [ecl_len];omega)]
 rfl
theorem LyS.below {h:Eh} {ks:List Int} {zs:List Nd} {W W1:World} {v1:Value} {s0:Sl} {ys:List Value} (H:LyS w B D L N h v xs ks zs W v1 s0 ys) (hb:Below W.heap.size W W1):LyS w B D L N h v xs ks zs W1 v1 s0 ys :=
 ⟨H.vr.below hb,H.nh.move (ownsRow_of H.nh.row fun k _ hl=>hb.block k hl) fun d s k=>k.keep fun j hj _=>hb.block j hj,H.fl.trans (row':=v.ownBlock) (FL.of hb) fun g hg=>Or.inl hg,H.at_⟩
theorem LyS.apart {h:Eh} {ks:List Int} {zs:List Nd} {W:World} {v1:Value} {s0:Sl} {ys:List Value} (H:LyS w B D L N h v xs ks zs W v1 s0 ys):∀ g,v1.ownBlock=some g→s0.ls.ownBlock≠some g:=by
 intro g hg e
 obtain ⟨c1,e1⟩:=row_kind H.nh.row hg
 obtain ⟨c2,e2⟩:=row_kind H.nh.hd.ks e
 rw [e1] at e2
 have:=Option.some.inj e2
 injection this with _ e3 _
 exact absurd e3 (by decide)
theorem LyS.cell2 {h:Eh} {ks:List Int} {zs:List Nd} {W W2:World} {g cap m:Nat} {s0:Sl} {ys:List Value} (H:LyS w B D L N h v xs ks zs W (.slice (some ⟨g,0,none⟩) m cap) s0 ys) (hg:W.grownBy W2 s0.ls.ownBlock):W2.cell? ⟨g,N * 13 + 3,none⟩=some s0.ls∧W2.frozen? ⟨g,N * 13 + 3,none⟩=false:=by
 obtain ⟨g',cap',e,c1,f1,_,_,hl⟩:=H.shape
 obtain ⟨e1,_,_⟩:=Value.slice.inj e
 cases e1
 have hb:W2.heap[g]?=W.heap[g]?:=hg.block g hl fun e=>H.apart g rfl e.symm
 exact ⟨(World.cell?_of_block (a:=⟨g,N * 13 + 3,none⟩) hb).trans c1,(World.frozen?_of_block (a:=⟨g,N * 13 + 3,none⟩) hb).trans f1⟩
theorem LyS.app {h:Eh} {ks:List Int} {zs:List Nd} {W W2:World} {g cap m:Nat} {s0:Sl} {ys:List Value} {ls':Value} {z:Int} (H:LyS w B D L N h v xs ks zs W (.slice (some ⟨g,0,none⟩) m cap) s0 ys) (hx:w.ownsRow L 67 13 v N xs) (hg:W.grownBy W2 s0.ls.ownBlock) (ho:OwnZ W2 w.heap.size ls' (ks++[z])) (hat:ls'.ownBlock=s0.ls.ownBlock∨ls'.ownBlock=some W.heap.size) :
  LyS w B D L N h v xs (ks++[z]) zs (W2.setCell ⟨g,N * 13 + 3,none⟩ ls') (.slice (some ⟨g,0,none⟩) m cap) ⟨s0.ns,ls',s0.vs,s0.vl⟩ ys:=by
 have hn:=H.vr.not (by decide) H.nh.row g rfl
 have hk:=H.vr.not (by decide) H.nh.hd.ks
 refine ⟨(H.vr.grown hg hk).set (Ne.symm (Ne.symm hn.1)) hn.2,H.nh.kid rfl hg ho hat,(H.fl.grown hg fun j hj=>Or.inr (World.ownsRow.lt H.nh.hd.ks j hj).1).set ?_,H.at_⟩
 rcases H.at_ with h|h
 ·exact Or.inr (Or.inl (h ▸ rfl))
 ·exact Or.inr (Or.inr (h g rfl))
theorem LyS.call (ih:LayOk n) {h:Eh} {y:ET n} {q:Sl} {ks:List Int} {zs:List Nd} {W:World} {v1:Value} {s0:Sl} {ys:List Value} (H:LyS w B D L N h v xs ks zs W v1 s0 ys) (hb0:Below w0.heap.size w0 w) (hL:w0.heap.size≤L) (hB:w0.heap.size≤B) (hLw:L≤w.heap.size) (hx:w.ownsRow L 67 13 v N xs)
  (hr:RE n w0 y q) (hN:N + (1 + zs.length) + esiz n y≤100000) (hg:GE n y) :
  Calls Tryz.prog 55 #[.agg (ecl (ehd n y) q),.pointer (some ⟨B,0,none⟩),.pointer (some ⟨D,0,none⟩)] W fun e w'=>e=.returned (.tuple #[])∧∃ v' ys',LyS w B D L N h v xs ks (zs++(prg n y (N + (1 + zs.length))).map bareN) w' v' s0 ys':=by
 refine (ih y q w0 W B D L (N + (1 + zs.length)) v1 _ hr (H.low hb0 hL hB hx) hL hB (Nat.le_trans hLw H.fl.size) H.vr H.nh.row hN hg).mono ?_
 rintro e w' ⟨rfl,v',ys',V',hnt,hfl,hat⟩
 refine ⟨rfl,v',_,V',H.nh.join ?_ H.fl.size hnt,?_,?_⟩
 ·exact fun d s k=>k.fl hfl ⟨_,H.vr.row⟩ fun g hg=>row_kind H.nh.row hg
 ·refine H.fl.trans hfl fun g hg=>?_
  rcases H.at_ with h|h
  ·exact Or.inl (h ▸ hg)
  ·exact Or.inr (h g hg)
 ·rcases hat with h|h
  ·rcases H.at_ with h' | h'
   ·exact Or.inl (h.trans h')
   ·exact Or.inr fun g hg=>h' g (h ▸ hg)
  ·exact Or.inr fun g hg=>by have:=h g hg;have:=H.fl.size;omega
end
end Lx
end Go.Proofs.YtgicnopppgnjjaaGreatDoor
namespace Go.Proofs.YtgicnopppgnjjaaGreatDoor
namespace Lx
open Go.RowKit
theorem row_shapeN {W:World} {L N sz:Nat} {T:TypeId} {v:Value} {xs:List Value} (h:W.ownsRow L T sz v N xs):∃ a c,v=.slice a N c:=by
 rcases h.2 with ⟨rfl,e⟩|⟨g,cap,cur,rfl,_⟩
 ·exact ⟨none,0,by rw [e]⟩
 ·exact ⟨_,_,rfl⟩
theorem cell_new1 {W:World} {i:Nat} {v:Value} {T:TypeId} (h:i=W.heap.size):(W.alloc (.cells #[v] T)).cell? ⟨i,0,none⟩=some v:=by
 subst h
 unfold World.cell?
 rw [heap_alloc_last]
 rfl
theorem new_rng {W:World} {h:Eh} {q:Sl} {T:TypeId}:(W.alloc (.cells (ecl h q) T)).rangeAt W.heap.size 0 (ecl h q).toList:=fun j v hj=>by
 rw [Nat.zero_add]
 unfold World.cell?
 rw [heap_alloc_last]
 simpa using hj
set_option maxHeartbeats 4000000 in
set_option maxRecDepth 100000 in
theorem lay_any (n:Nat) (ih:LayOk n):LayOk (n + 1):=by
 intro x q w0 w B D L N v xs hr hb0 hL hB hLw V hx hN hg
 obtain ⟨h,l⟩:=x
 obtain ⟨al,cl,hle,hc1,hc2⟩:=hr.tl.len
 obtain ⟨x1,y1,z1,x2,y2,z2,x3,y3,z3,x4,y4,z4,hqs⟩:=hr.shape
 subst hqs
 obtain ⟨rfl,rfl,rfl⟩:=Value.slice.inj hle
 clear hle
 obtain ⟨ra,rc,rfl⟩:=row_shapeN hx
 simp only at hc1 hc2
 have ml:maxLen=9223372036854775807:=rfl
 have hno:=hide (fun W (hb:Below w0.heap.size w0 W)=>nodeOf_any (n + 1) (h,l) _ W (hr.below hb) (by have h1:h.names.length≤100000:=hg.1.2.1;show h.names.length≤200000;omega))
 have hR:=hide hr
 have hG:=hide hg
 have IH:=hide ih
 have V0:=hide V
 have HX:=hide hx
 have HB0:=hide hb0
 have hN2:N + (1 + suml (l.map (esiz n)))≤100000:=hN
 have cN:=V.cells
 have sN:=V.lt
 clear hr hg ih V hx hb0 hN
 show Calls _ _ #[.agg (ecl h _),_,_] _ _
 have X0:=hide (ex_new w h ⟨.slice x1 y1 z1,.slice x2 (l.length) z2,.slice x3 y3 z3,.slice x4 y4 z4⟩)
 simp only [show ehd (n + 1) ((h,l):ET (n + 1))=h from rfl] at hno
 unfold ecl at X0 hno ⊢
 dsimp only at X0 hno ⊢
 go_enter Tryz.func55, Tryz.ntmps55
 go_upto_region 2 with fail
 go_cut [] (fun wx=>Hid (∃ v1 s0 ys,LyS w B D L N h (.slice ra N rc) xs [] [] wx v1 s0 ys∧wx.heap[w.heap.size]?=some (.cells #[.int .i64 h.op,.string h.name,.slice x1 y1 z1,.slice x2 l.length z2,.int .i64 (vhd h.vn h.val).kind,.bool (vhd h.vn h.val).flag,.bool (vhd h.vn h.val).neg,.string (vhd h.vn h.val).dig,.int .i64 (vhd h.vn h.val).exp,.int .u64 (vhd h.vn h.val).bits,.string (vhd h.vn h.val).text,.slice x3 y3 z3,.slice x4 y4 z4] 33 (0,0))))
 case first =>
  have H0:Hid ((w.alloc (.cells #[.int .i64 h.op,.string h.name,.slice x1 y1 z1,.slice x2 l.length z2,.int .i64 (vhd h.vn h.val).kind,.bool (vhd h.vn h.val).flag,.bool (vhd h.vn h.val).neg,.string (vhd h.vn h.val).dig,.int .i64 (vhd h.vn h.val).exp,.int .u64 (vhd h.vn h.val).bits,.string (vhd h.vn h.val).text,.slice x3 y3 z3,.slice x4 y4 z4] 33)).drew.heap[w.heap.size]?=some (.cells #[.int .i64 h.op,.string h.name,.slice x1 y1 z1,.slice x2 l.length z2,.int .i64 (vhd h.vn h.val).kind,.bool (vhd h.vn h.val).flag,.bool (vhd h.vn h.val).neg,.string (vhd h.vn h.val).dig,.int .i64 (vhd h.vn h.val).exp,.int .u64 (vhd h.vn h.val).bits,.string (vhd h.vn h.val).text,.slice x3 y3 z3,.slice x4 y4 z4] 33 (0,0))):=last_at3 rfl
  have e0:=(show Ex (w.alloc (.cells (ecl h ⟨.slice x1 y1 z1,.slice x2 l.length z2,.slice x3 y3 z3,.slice x4 y4 z4⟩) 33)) w.heap.size h ⟨.slice x1 y1 z1,.slice x2 l.length z2,.slice x3 y3 z3,.slice x4 y4 z4⟩ from ⟨H0.out⟩).cells
  have NB:=hide (V0.out.not (by decide) HX.out)
  go_region_law (first|(go_simp;go_at_call 56;refine (hno.out _ (HB0.out.trans ((below_al (Below.refl _ _)).drew.mono HB0.out.size))).mono ?_;rintro e w1 ⟨av,c,rfl,ho,hb1⟩;have O1:=hide ho;have BB1:=hide (below_then ((below_al (Below.refl _ _)).drew) hb1);have V1:=hide (V0.out.below BB1.out);have c1:=V1.out.cells;have s1:=V1.out.lt;have H1:=hide ((hb1.block _ (by simp)).trans H0.out);have l1:w.heap.size<w1.heap.size:=(Array.getElem?_eq_some_iff.1 H1.out).1;clear ho hb1)|(refine step_nd rfl (.tmp 9) (.tmp 12) rfl L (.slice ra N rc) N xs rfl (ownsRow_of HX.out fun g hg hlt=>(Below.heap_alloc _ _ _ (by have:=BB1.out.size;omega)).trans (BB1.out.block g hlt)) w1.heap.size 1 rfl (bareH h) ⟨.slice av h.names.length c,.slice none 0 0,.slice none 0 0,.slice none 0 0⟩ rfl rfl rfl rfl new_rng (by omega) (by have:=BB1.out.size;simp;omega) ?_;intro av2 c2 w4 o4 g4 at4;have V4:=hide (V1.out.al.grown g4.out NB.out);have c4:=V4.out.cells;have s4:=V4.out.lt;have H4:=hide ((g4.out.block w.heap.size (by simp;omega) (fun e=>by have:=(World.ownsRow.lt HX.out _ e.symm).2;omega)).trans (low_at3 (Array.getElem?_eq_some_iff.1 H1.out).1 H1.out))))
  all_goals (go_wp2_with fail;go_meet;exact ⟨_,_,_,LyS.start V0.out HX.out hLw BB1.out (ownRow_mono O1.out (by simp)) (by simp) (fun k hk=>Below.heap_alloc _ _ _ hk) ⟨rfl,rfl,rfl⟩ g4.out o4.out at4.out,low_set3 (by omega) H4.out⟩)
 case rest =>
 obtain ⟨v1,s1,ys1,H1,hE⟩:=hcut.out
 have e1:=(show Ex wc w.heap.size h ⟨.slice x1 y1 z1,.slice x2 l.length z2,.slice x3 y3 z3,.slice x4 y4 z4⟩ from ⟨hE⟩).cells.2.2.2.1
 have S1:=hide H1
 clear H1 hE hcut X0 V0 hno
 go_wp2_with fail
 go_loopw [17] (fun i W=>∃ k:Nat,i=.int .i64 k∧k≤l.length∧Hid (∃ v1 s0 ys,LyS w B D L N h (.slice ra N rc) xs (kds ((l.take k).map (esiz n)) (N + 1)) ((prl (prg n) (esiz n) (l.take k) (N + 1)).map bareN) W v1 s0 ys)) (fun i _=>l.length - (intOf i).toNat)
 case atStart=>exact ⟨0,rfl,Nat.zero_le _,v1,s1,ys1,by simpa [kds,prl] using S1.out⟩
 case round =>
  obtain ⟨k,rfl,hk,H⟩:=hrel
  by_cases hkl:k<l.length
  ·have hki:(k:Int)<(l.length:Int):=by omega
   obtain ⟨v2,s2,ys2,H2⟩:=H.out
   have lw:=H2.low HB0.out hL hB HX.out
   obtain ⟨b,o,c,he,hbl,_,_,q',hrg,hrd⟩:=hR.out.tl.at k hkl
   obtain ⟨rfl, -,rfl⟩:=Value.slice.inj he
   have r0:=range13 (rangeAt_below hrg lw hbl)
   obtain ⟨b1,b2,b3,b4,b5,b6,b7,b8,b9,b10,b11,b12,hqs⟩:=hrd.shape
   subst hqs
   have RD:=hide hrd
   have GK:=hide (hG.out.2.2 _ (List.getElem_mem hkl))
   obtain ⟨yh,hyh⟩:∃ y,ehd n l[k]=y:=⟨_,rfl⟩
   have HY:=hide hyh
   rw [hyh] at r0
   have S2:=hide H2
   clear hrg hrd he hyh H H2 lw
   go_upto_region 6 with fail
   obtain ⟨g,cap,hv2,ck2,fk2,hgB,hgD,hgl⟩:=S2.out.shape
   subst hv2
   have zl:((prl (prg n) (esiz n) (l.take k) (N + 1)).map bareN).length=suml ((l.take k).map (esiz n)):=by rw [List.length_map,prl_len (prg_len n)]
   obtain ⟨ka,kc,hks⟩:=row_shapeN S2.out.nh.hd.ks
   obtain ⟨zs,hzs⟩:∃ zs,(prl (prg n) (esiz n) (l.take k) (N + 1)).map bareN=zs:=⟨_,rfl⟩
   obtain ⟨ks,hkk⟩:∃ ks,kds ((l.take k).map (esiz n)) (N + 1)=ks:=⟨_,rfl⟩
   have ZL:=hide zl
   have HZ:=hide hzs
   have HK:=hide hkk
   have hsm:suml ((l.take k).map (esiz n)) + esiz n l[k]≤suml (l.map (esiz n)):=by
    have:=sumt_le (l.map (esiz n)) k (by simpa using hkl)
    rw [List.getElem_map,←List.map_take] at this
    exact this
   rw [hkk] at S2
   rw [hzs] at zl
   rw [hkk] at hks
   rw [hks] at ck2
   obtain ⟨M,hM⟩:∃ M,N + (1 + zs.length)=M:=⟨_,rfl⟩
   rw [hzs,hM] at S2
   have HM:=hide hM
   obtain ⟨cB,fB,cD⟩:=S2.out.vr.cells
   have sB:=S2.out.vr.lt
   have hi0:(0:Int)≤(N:Int):=by omega
   have hi1:(N:Int)<(M:Int):=by omega
   have hN1:((N:Int).toNat)=N:=by omega
   have kl2:ks.length≤100000:=by
    rw [←hkk,kds_len,List.length_map,List.length_take]
    have:l.length≤100000:=hG.out.2.1
    omega
   have HKS:=hide hks
   clear hzs hkk hks hM
   go_cut [] (fun wx=>Hid (∃ s3 ys3,LyS w B D L N h (.slice ra N rc) xs (ks++[(M:Int)]) zs wx (.slice (some ⟨g,0,none⟩) (M) cap) s3 ys3∧wx.heap[wr.heap.size]?=some (.cells #[.int .i64 yh.op,.string yh.name,.slice b1 b2 b3,.slice b4 b5 b6,.int .i64 (vhd yh.vn yh.val).kind,.bool (vhd yh.vn yh.val).flag,.bool (vhd yh.vn yh.val).neg,.string (vhd yh.vn yh.val).dig,.int .i64 (vhd yh.vn yh.val).exp,.int .u64 (vhd yh.vn yh.val).bits,.string (vhd yh.vn yh.val).text,.slice b7 b8 b9,.slice b10 b11 b12] 33 (0,0))))
   case first =>
    go_region_law (refine step_z rfl (.tmp 27) (.tmp 30) rfl w.heap.size (.slice ka ks.length kc) ks rfl (by have:=S2.out.nh.hd.ks;rw [HKS.out] at this;exact ownsRow_of this fun j hj hl=>(Below.heap_alloc _ _ _ (by simp;omega)).trans (Below.heap_alloc _ _ _ hl)) (wr.heap.size + 1) 1 rfl (M:Int) (cell_new1 (by simp)) (by omega) (by have:=S2.out.fl.size;simp;omega) ?_;intro av c2 w4 o4 g4 at4;have SW:=hide (S2.out.below (W1:=((wr.alloc (.cells #[.int .i64 yh.op,.string yh.name,.slice b1 b2 b3,.slice b4 b5 b6,.int .i64 (vhd yh.vn yh.val).kind,.bool (vhd yh.vn yh.val).flag,.bool (vhd yh.vn yh.val).neg,.string (vhd yh.vn yh.val).dig,.int .i64 (vhd yh.vn yh.val).exp,.int .u64 (vhd yh.vn yh.val).bits,.string (vhd yh.vn yh.val).text,.slice b7 b8 b9,.slice b10 b11 b12] 33)).alloc (.cells #[.int .i64 (M:Int)] 3)).drew) (below_al (below_al (Below.refl _ _))).drew);have k4:=LyS.cell2 SW.out (by rw [HKS.out];exact g4.out);have V4:=hide (SW.out.vr.grown g4.out (by have h9:=SW.out.vr.not (by decide) SW.out.nh.hd.ks;rw [HKS.out] at h9;exact h9));have c4:=V4.out.cells;have s4:=V4.out.lt)
    all_goals (go_wp2_with fail;go_meet;exact ⟨_,_,SW.out.app HX.out (by rw [HKS.out];exact g4.out) o4.out (by rw [HKS.out];exact at4.out),low_set3 (by omega) ((g4.out.block wr.heap.size (by simp;omega) (fun e=>by have:=(World.ownsRow.lt S2.out.nh.hd.ks _ ((congrArg Value.ownBlock HKS.out).trans e.symm)).2;omega)).trans (low_at3 (by simp) (last_at3 rfl)))⟩)
   case rest =>
   obtain ⟨s3,ys3,H3,hX⟩:=hcut.out
   have c3:=H3.vr.cells
   have s3':=H3.vr.lt
   have e3:=(show Ex wc wr.heap.size yh ⟨.slice b1 b2 b3,.slice b4 b5 b6,.slice b7 b8 b9,.slice b10 b11 b12⟩ from ⟨hX⟩).cells
   dsimp only at e3
   have zl':zs.length=suml ((l.take k).map (esiz n)):=by rw [←HZ.out];exact ZL.out
   have CALL:=hide (LyS.call IH.out (y:=l[k]) H3 HB0.out hL hB hLw HX.out RD.out (by have:=HM.out;omega) GK.out)
   rw [HY.out,HM.out] at CALL
   clear H3 hX hcut ck2 fk2 cB fB cD sB r0 S2
   unfold layV at c3
   unfold ecl at CALL
   dsimp only at CALL
   go_wp2_with (go_at_call 55;refine Sto.out ?_)
   refine Sto.mk ?_
   refine CALL.out.mono ?_
   rintro e w5 ⟨rfl,v5,ys5,H5⟩
   have H5':=hide H5
   clear H5 CALL c3 s3' e3
   go_wp2_with fail
   refine ⟨⟨k + 1,by go_num,by omega,v5,s3,ys5,?_⟩,by simp [intOf];omega⟩
   have h5:=H5'.out
   rw [←HK.out,←HZ.out] at h5
   have e1:M=N + 1 + suml ((l.take k).map (esiz n)):=by have:=HM.out;omega
   rw [List.take_succ_eq_append_getElem hkl,List.map_append,List.map_cons,List.map_nil,kds_snoc,prl_snoc,List.map_append,←e1]
   exact h5
  ·have hki:¬ (k:Int)<(l.length:Int):=by omega
   have hke:l.take k=l:=List.take_of_length_le (by omega)
   obtain ⟨v2,s2,ys2,H2⟩:=H.out
   rw [hke] at H2
   have S2:=hide H2
   clear H H2 hke
   go_wp2_with fail
   first|go_ret|go_end0
   exact LayP.mk (prg_map n h l N) S2.out.vr S2.out.nh.nt S2.out.fl S2.out.at_
end Lx
end Go.Proofs.YtgicnopppgnjjaaGreatDoor
