/- Merged by program: PtRow, PuNamed, PvFields, PwTypeOf, VzCheck. -/
import Derived.Test.YtcnfchblfcfimaaGreatDoorZr29
import Derived.Test.YtcnfchblfcfimaaGreatDoorZr18
import Derived.Test.YtcnfchblfcfimaaGreatDoorZr30
import Derived.Test.YtcnfchblfcfimaaGreatDoorZr31
set_option linter.unusedSimpArgs false
set_option linter.unusedVariables false
namespace Go.Proofs.YtcnfchblfcfimaaGreatDoor
namespace Lx
open Go.RowKit
theorem infoTQ:(Tryz.prog.info? 48).map (fun i=>(i.zero,i.size,i.bytes))=some (some (.agg #[.int .i64 0,.slice none 0 0,.slice none 0 0]),3,56):=by kernel_rfl
structure S2 where
 ns:Value
 ls:Value
def tcl (h:Th) (s:S2):Array Value:=tvs h s.ns s.ls
def RTq (n:Nat) (w:World) (x:TT n) (q:S2):Prop:=RT n w x q.ns q.ls
abbrev TLq (n:Nat) (w:World) (v:Value) (l:List (TT n)):Prop:=TL n w v l
theorem RTq.below {n:Nat} {w W:World} {x:TT n} {s:S2} (h:RTq n w x s) (hb:Below w.heap.size w W):RTq n W x s:=RT.below h hb
theorem RTq.shape {n:Nat} {w:World} {x:TT n} {s:S2} (h:RTq n w x s):∃ a m c a' m' c',s=⟨.slice a m c,.slice a' m' c'⟩:=by
 obtain ⟨a,m,c,a',m',c',e,e'⟩:=RT.shape h
 cases s
 simp only at e e'
 exact ⟨a,m,c,a',m',c',by rw [e,e']⟩
def KQ (n:Nat) (W:World) (x:TT n) (q:S2) (s e:Nat):Prop:=s≤e∧e≤W.heap.size∧∀ W':World,(∀ k,s≤k→k<e→W'.heap[k]?=W.heap[k]?)→RTq n W' x q
theorem KQ.move {n:Nat} {W W1:World} {x:TT n} {q:S2} {s e:Nat} (h:KQ n W x q s e) (hs:e≤W1.heap.size) (hb:∀ k,s≤k→k<e→W1.heap[k]?=W.heap[k]?):KQ n W1 x q s e :=
 ⟨h.1,hs,fun W' h'=>h.2.2 W' fun k h1 h2=>(h' k h1 h2).trans (hb k h1 h2)⟩
theorem KQ.rd {n:Nat} {W:World} {x:TT n} {q:S2} {s e:Nat} (h:KQ n W x q s e):RTq n W x q:=h.2.2 W fun _ _ _=>rfl
theorem KQ.wide {n:Nat} {W:World} {x:TT n} {q:S2} {s e s' e':Nat} (h:KQ n W x q s e) (h1:s'≤s) (h2:e≤e') (h3:e'≤W.heap.size):KQ n W x q s' e':=⟨by have:=h.1;omega,h3,fun W' h'=>h.2.2 W' fun k a b=>h' k (by omega) (by omega)⟩
def TRw (n L:Nat) (W:World) (v:Value) (l:List (TT n)):Prop:=∃ xs,W.ownsRow L 48 3 v l.length xs∧∀ j (h:j<l.length),∃ q s e,KQ n W l[j] q s e∧L≤s∧(∀ g,v.ownBlock=some g→g<s∨e≤g)∧∀ r u,(tcl (thd n l[j]) q).toList[r]?=some u→xs[j * 3 + r]?=some u
theorem TRw.shape {n L:Nat} {W:World} {v:Value} {l:List (TT n)} (h:TRw n L W v l):∃ a c,v=.slice a l.length c:=by
 obtain ⟨xs,h,_⟩:=h
 rcases h.2 with ⟨rfl,e⟩|⟨g,cap,cur,rfl,_⟩
 ·exact ⟨none,0,by rw [e]⟩
 ·exact ⟨_,_,rfl⟩
theorem TRw.keep {n L:Nat} {W W1:World} {v:Value} {l:List (TT n)} (h:TRw n L W v l) (hz:W.heap.size≤W1.heap.size) (hb:∀ k,L≤k→k<W.heap.size→W1.heap[k]?=W.heap[k]?):TRw n L W1 v l:=by
 obtain ⟨xs,h1,h2⟩:=h
 have hlt:=World.ownsRow.lt h1
 refine ⟨xs,ownsRow_of h1 fun g hg hl=>hb g (hlt g hg).1 hl,fun j hj=>?_⟩
 obtain ⟨q,s,e,k1,k2,k3,k4⟩:=h2 j hj
 exact ⟨q,s,e,k1.move (by have:=k1.2.1;omega) (fun k a b=>hb k (by omega) (by have:=k1.2.1;omega)),k2,k3,k4⟩
theorem TRw.fb {n L B:Nat} {W W1:World} {v:Value} {l:List (TT n)} (h:TRw n L W v l) (hb:FB B W W1) (hB:B<L):TRw n L W1 v l:=h.keep hb.size fun k a b=>hb.blk k b (by omega)
theorem TRw.el {n L:Nat} {W W':World} {v:Value} {l:List (TT n)} (h:TRw n L W v l) (hb:∀ k,L≤k→k<W.heap.size→W'.heap[k]?=W.heap[k]?):TLq n W' v l:=by
 obtain ⟨xs,hx,hall⟩:=h
 have hr:=World.ownsRow.lt hx
 have hx2:=hx
 obtain ⟨h0,h1⟩:=hx
 rcases h1 with ⟨rfl,e⟩|⟨g,cap,cur,rfl,k1,k2,k3,k4,k5,k6⟩
 ·exact Or.inl ⟨rfl,List.eq_nil_of_length_eq_zero e⟩
 ·have hg:=(hr g rfl).2
  have hsame:W'.heap[g]?=W.heap[g]?:=hb g (hr g rfl).1 hg
  refine Or.inr ⟨g,0,cap,none,rfl,k3,k4,fun _=>⟨rfl,?_⟩,fun i hi=>?_⟩
  ·by_cases hlt:g<W'.heap.size
   ·exact hlt
   ·rw [k2,Array.getElem?_eq_none (by omega)] at hsame;cases hsame
  ·obtain ⟨q',s,e,q1,q2,q3,q4⟩:=hall i hi
   refine ⟨q'.ns,q'.ls,?_,q1.2.2 W' fun k r1 r2=>hb k (by omega) (by have:=q1.2.1;omega)⟩
   intro r u hrv
   have hq:=q4 r u hrv
   have hlt:=(List.getElem?_eq_some_iff.1 hq).1
   rw [Nat.zero_add,World.cell?_of_block (a:=⟨g,i * 3 + r,none⟩) hsame,World.ownsRow.cellAt hx2 _ (by rw [h0] at hlt;exact hlt)]
   exact hq
section
variable {w : World} {ops : Array Oper} {rest : List Oper} {o : Oper} {a : Act} {Q : Exit → Act → World → Prop}
theorem app_t3 (hgd:o.guard=none) (s x:Operand) (ho:o.op=.call {callee:=.builtin .append,args:=#[s,x],argTypes:=#[46,46]})
  (B:Nat) (v:Value) (n:Nat) (xs:List Value) (hs:a.eval s=v) (hown:w.ownsRow B 48 3 v n xs) (g c:Nat) (hx:a.eval x=.slice (some ⟨g,0,none⟩) 1 c) (hd:Th) (q:S2) (h1:q.ns.oneCell'=true) (h2:q.ls.oneCell'=true) 
  (hnews:w.rangeAt g 0 (tcl hd q).toList) (hm:n≤200000) (hB:B≤w.heap.size)
  (h:∀ av c' w',Hid (w'.ownsRow B 48 3 (.slice av (n + 1) c') (n + 1) (xs++(tcl hd q).toList))→Hid (w.grownBy w' v.ownBlock)→Hid ((Value.slice av (n + 1) c').ownBlock=v.ownBlock∨(Value.slice av (n + 1) c').ownBlock=some w.heap.size)→wpList Tryz.prog ops Q rest (a.put o.dst (.slice av (n + 1) c')) w'):wpList Tryz.prog ops Q (o :: rest) a w:=by
 obtain ⟨i0,hi,hz0,hz1,hz2⟩:=info_parts infoTQ
 refine wpList_append_own_at w hgd s x 46 ho B 48 i0 _ 3 56 Tryz.underlying46 hi hz0 hz1 hz2 rfl (by decide) v n xs hs hown ⟨g,0,none⟩ 1 c (tcl hd q).toList hx rfl ?_ ?_ ?_ ?_ hB ?_
 ·intro j u hj
  have:=hnews j u hj
  rw [show (⟨g,0,none⟩:Addr).add j=⟨g,0 + j,none⟩ by unfold Addr.add;split <;> simp_all]
  exact this
 ·intro u hu
  simp only [tcl,tvs,List.mem_cons,List.not_mem_nil,or_false] at hu
  rcases hu with rfl|rfl|rfl
  all_goals first|rfl|exact h1|exact h2
 ·unfold maxLen;omega
 ·omega
 ·intro v' w' h1 h2 h3 h4
  rcases h1.2 with ⟨rfl,e⟩|⟨g',cap,cur,rfl,_⟩
  ·omega
  ·exact h _ _ w' h1 h2 h4
end
structure Ty (W:World) (i:Nat) (h:Th) (q:S2):Prop where
 at_:W.heap[i]?=some (.cells (tcl h q) 48 (0,0))
theorem Ty.lt {W:World} {i:Nat} {h:Th} {q:S2} (k:Ty W i h q):i<W.heap.size:=(Array.getElem?_eq_some_iff.1 k.at_).1
theorem Ty.below {W W1:World} {i:Nat} {h:Th} {q:S2} (k:Ty W i h q) (hb:Below W.heap.size W W1):Ty W1 i h q:=⟨(hb.block _ k.lt).trans k.at_⟩
theorem Ty.fb {W W1:World} {i B:Nat} {h:Th} {q:S2} (k:Ty W i h q) (hb:FB B W W1) (hn:i≠B):Ty W1 i h q:=⟨(hb.blk _ k.lt hn).trans k.at_⟩
theorem Ty.cell {W:World} {i:Nat} {h:Th} {q:S2} (k:Ty W i h q) (j:Nat):W.cell? ⟨i,j,none⟩=(tcl h q)[j]?:=by
 unfold World.cell?
 rw [k.at_]
 rfl
theorem Ty.frz {W:World} {i:Nat} {h:Th} {q:S2} (k:Ty W i h q) (j:Nat):W.frozen? ⟨i,j,none⟩=false:=by
 have:=k.at_
 simp [World.frozen?,this]
theorem Ty.cells {W:World} {i:Nat} {h:Th} {q:S2} (k:Ty W i h q):W.cell? ⟨i,0,none⟩=some (.int .i64 h.kind)∧W.cell? ⟨i,1,none⟩=some q.ns∧W.cell? ⟨i,2,none⟩=some q.ls :=
 ⟨k.cell 0,k.cell 1,k.cell 2⟩
theorem Ty.range {W:World} {i:Nat} {h:Th} {q:S2} (k:Ty W i h q):W.rangeAt i 0 (tcl h q).toList:=by
 intro j v hj
 rw [Nat.zero_add,k.cell j,←hj,Array.getElem?_toList]
def tf (k:Int):Th:=⟨k,[]⟩
def tz:Th:=tf 0
def tzs:S2:=⟨.slice none 0 0,.slice none 0 0⟩
theorem tz_new (w:World):Ty (w.alloc (.cells #[.int .i64 0,.slice none 0 0,.slice none 0 0] 48)) w.heap.size tz tzs:=⟨Array.getElem?_push_size⟩
def PT (n B:Nat) (w:World) (o:Sum Int (TT n×List Tk)) (e:Ending) (w':World):Prop:=FB B w w'∧match o with
 | .inl p=>e=.panicked (pw p)
 | .inr x=>∃ q,e=.returned (.agg (tcl (thd n x.1) q))∧KQ n w' x.1 q w.heap.size w'.heap.size∧TQ w' B x.2
def TpOk (n F:Nat) (M:List Tk→Sum Int (TT n×List Tk)) (f:Nat):Prop:=∀ (w:World) (B:Nat) (l:List Tk),Lq w B l→l.length≤f→Calls Tryz.prog F #[lv B] w fun e w'=>PT n B w (M l) e w'
theorem KQ.fb {n B:Nat} {W W1:World} {x:TT n} {q:S2} {s e:Nat} (h:KQ n W x q s e) (hb:FB B W W1) (hB:B<s):KQ n W1 x q s e:=h.move (by have:=h.2.1;have:=hb.size;omega) fun k a b=>hb.blk k (by have:=h.2.1;omega) (by omega)
theorem KQ.below {n:Nat} {W W1:World} {x:TT n} {q:S2} {s e:Nat} (h:KQ n W x q s e) (hb:Below W.heap.size W W1):KQ n W1 x q s e:=h.move (by have:=h.2.1;have:=hb.size;omega) fun k a b=>hb.block k (by have:=h.2.1;omega)
theorem KQ.set {n i o:Nat} {W:World} {x:TT n} {q:S2} {s e:Nat} {u:Value} (h:KQ n W x q s e) (hi:i<s):KQ n (W.setCell ⟨i,o,none⟩ u) x q s e:=h.move (by simp;exact h.2.1) fun k a b=>Below.heap_setCell _ _ _ _ (by show k≠i;omega)
theorem KQ.al {n:Nat} {W:World} {x:TT n} {q:S2} {s e:Nat} {o:Obj} (h:KQ n W x q s e):KQ n (W.alloc o) x q s e:=h.below (below_al (Below.refl _ _))
theorem KQ.fin {n:Nat} {W:World} {x:TT n} {q:S2} {s e s':Nat} (h:KQ n W x q s e) (hs:s'≤s):KQ n W x q s' W.heap.size:=h.wide hs h.2.1 (Nat.le_refl _)
theorem ty_new (w:World) (h:Th) (q:S2):Ty (w.alloc (.cells (tcl h q) 48)) w.heap.size h q:=⟨Array.getElem?_push_size⟩
theorem PT.bad {n B:Nat} {w w':World} {R:Sum Int (TT n×List Tk)} {p:Int} (e:R=.inl p) (hb:FB B w w'):PT n B w R (.panicked (pw p)) w':=by
 rw [e];exact ⟨hb,rfl⟩
theorem PT.good {n B:Nat} {w w':World} {R:Sum Int (TT n×List Tk)} {x:TT n×List Tk} {q:S2} (e:R=.inr x) (hb:FB B w w') (hk:KQ n w' x.1 q w.heap.size w'.heap.size) (ht:TQ w' B x.2):PT n B w R (.returned (.agg (tcl (thd n x.1) q))) w':=by
 rw [e];exact ⟨hb,q,rfl,hk,ht⟩
structure T2 (n L:Nat) (W:World) (nv v:Value) (nms:List ByteArray) (l:List (TT n)) (xs:List Value):Prop where
 nrow:OwnS W L nv nms
 row:W.ownsRow L 48 3 v l.length xs
 all:∀ j (h:j<l.length),∃ q s e,KQ n W l[j] q s e∧L≤s∧(∀ g,v.ownBlock=some g∨nv.ownBlock=some g→g<s∨e≤g)∧∀ r u,(tcl (thd n l[j]) q).toList[r]?=some u→xs[j * 3 + r]?=some u
theorem T2.er {n L:Nat} {W:World} {nv v:Value} {nms:List ByteArray} {l:List (TT n)} {xs:List Value} (h:T2 n L W nv v nms l xs):TRw n L W v l:=⟨xs,h.row,fun j hj=>by
 obtain ⟨q,s,e,a,b,c,d⟩:=h.all j hj
 exact ⟨q,s,e,a,b,fun g hg=>c g (Or.inl hg),d⟩⟩
theorem T2.nil (n L:Nat) (W:World):T2 n L W (.slice none 0 0) (.slice none 0 0) [] [] []:=⟨World.ownsRow_nil _ _ _ _,World.ownsRow_nil _ _ _ _,fun j h=>by simp at h⟩
theorem T2.keep {n L:Nat} {W W1:World} {nv v:Value} {nms:List ByteArray} {l:List (TT n)} {xs:List Value} (h:T2 n L W nv v nms l xs) (hz:W.heap.size≤W1.heap.size) (hb:∀ k,L≤k→k<W.heap.size→W1.heap[k]?=W.heap[k]?):T2 n L W1 nv v nms l xs:=by
 have hlt:=World.ownsRow.lt h.row
 have hlt2:=World.ownsRow.lt h.nrow
 refine ⟨ownsRow_of h.nrow fun g hg hl=>hb g (hlt2 g hg).1 hl,ownsRow_of h.row fun g hg hl=>hb g (hlt g hg).1 hl,fun j hj=>?_⟩
 obtain ⟨q,s,e,k1,k2,k3,k4⟩:=h.all j hj
 exact ⟨q,s,e,k1.move (by have:=k1.2.1;omega) (fun k a b=>hb k (by omega) (by have:=k1.2.1;omega)),k2,k3,k4⟩
theorem T2.fb {n L B:Nat} {W W1:World} {nv v:Value} {nms:List ByteArray} {l:List (TT n)} {xs:List Value} (h:T2 n L W nv v nms l xs) (hb:FB B W W1) (hB:B<L):T2 n L W1 nv v nms l xs:=h.keep hb.size fun k a b=>hb.blk k b (by omega)
theorem T2.below {n L:Nat} {W W1:World} {nv v:Value} {nms:List ByteArray} {l:List (TT n)} {xs:List Value} (h:T2 n L W nv v nms l xs) (hb:Below W.heap.size W W1):T2 n L W1 nv v nms l xs:=h.keep hb.size fun k a b=>hb.block k b
theorem T2.al {n L:Nat} {W:World} {nv v:Value} {nms:List ByteArray} {l:List (TT n)} {xs:List Value} {o:Obj} (h:T2 n L W nv v nms l xs):T2 n L (W.alloc o) nv v nms l xs:=h.below (below_al (Below.refl _ _))
theorem T2.lt {n L:Nat} {W:World} {nv v:Value} {nms:List ByteArray} {l:List (TT n)} {xs:List Value} (h:T2 n L W nv v nms l xs):∀ g,v.ownBlock=some g∨nv.ownBlock=some g→L≤g∧g<W.heap.size:=by
 intro g hg
 rcases hg with hg|hg
 ·exact World.ownsRow.lt h.row g hg
 ·exact World.ownsRow.lt h.nrow g hg
theorem T2.apart {n L:Nat} {W:World} {nv v:Value} {nms:List ByteArray} {l:List (TT n)} {xs:List Value} (h:T2 n L W nv v nms l xs):∀ g,v.ownBlock=some g→nv.ownBlock=some g→False:=by
 intro g h1 h2
 rcases h.row.2 with ⟨rfl,e⟩|⟨g1,cap,cur,rfl,_,k2,_⟩
 ·cases h1
 ·rcases h.nrow.2 with ⟨rfl,e⟩|⟨g2,cap,cur,rfl,_,k3,_⟩
  ·cases h2
  ·cases h1;cases h2
   rw [k2] at k3
   have:=Option.some.inj k3
   injection this with _ e _
   exact absurd e (by decide)
theorem T2.name {n L N:Nat} {W w':World} {nv nv' v:Value} {nms:List ByteArray} {l:List (TT n)} {xs:List Value} {st:ByteArray} (h:T2 n L W nv v nms l xs) (hN:nms.length=N) (hg:W.grownBy w' nv.ownBlock) (ho:w'.ownsRow L 9 1 nv' (N + 1) (scs nms++[.string st])) (hat:nv'.ownBlock=nv.ownBlock∨nv'.ownBlock=some W.heap.size):T2 n L w' nv' v (nms++[st]) l xs:=by
 have hz:=hg.size
 refine ⟨?_,?_,fun j hj=>?_⟩
 ·unfold OwnS
  rw [List.length_append,List.length_singleton,hN]
  simpa [scs] using ho
 ·exact ownsRow_of h.row fun g hg' hl=>hg.block g hl (fun e=>h.apart g hg' e.symm)
 ·obtain ⟨q,s,e,k1,k2,k3,k4⟩:=h.all j hj
  have:=k1.2.1
  refine ⟨q,s,e,k1.move (by omega) (fun k a b=>hg.block k (by omega) (fun e1=>by rcases k3 k (Or.inr e1.symm) with h|h <;> omega)),k2,?_,k4⟩
  intro g hg'
  rcases hg' with hg' | hg'
  ·exact k3 g (Or.inl hg')
  ·rcases hat with h1|h1
   ·exact k3 g (Or.inr (h1 ▸ hg'))
   ·rw [h1] at hg';cases hg';right;omega
theorem T2.push {n L N s0 e0:Nat} {W w':World} {nv v v':Value} {nms:List ByteArray} {l:List (TT n)} {xs:List Value} {x:TT n} {q:S2} (h:T2 n L W nv v nms l xs) (hN:l.length=N) (hc:KQ n W x q s0 e0) (hs0:L≤s0) (hap:∀ g,v.ownBlock=some g∨nv.ownBlock=some g→g<s0) (hg:W.grownBy w' v.ownBlock) (ho:w'.ownsRow L 48 3 v' (N + 1) (xs++(tcl (thd n x) q).toList)) (hat:v'.ownBlock=v.ownBlock∨v'.ownBlock=some W.heap.size):T2 n L w' nv v' nms (l++[x]) (xs++(tcl (thd n x) q).toList):=by
 have hz:=hg.size
 have hcz:=hc.2.1
 refine ⟨?_,?_,fun j hj=>?_⟩
 ·exact ownsRow_of h.nrow fun g hg' hl=>hg.block g hl (fun e=>h.apart g e.symm hg')
 ·rw [List.length_append,List.length_singleton,hN];exact ho
 ·rw [List.length_append,List.length_singleton] at hj
  by_cases hjk:j<l.length
  ·obtain ⟨q',s,e,k1,k2,k3,k4⟩:=h.all j hjk
   have:=k1.2.1
   rw [List.getElem_append_left hjk]
   refine ⟨q',s,e,k1.move (by omega) (fun k a b=>hg.block k (by omega) (fun e1=>by rcases k3 k (Or.inl e1.symm) with h|h <;> omega)),k2,?_,?_⟩
   ·intro g hg'
    rcases hg' with hg' | hg'
    ·rcases hat with h1|h1
     ·exact k3 g (Or.inl (h1 ▸ hg'))
     ·rw [h1] at hg';cases hg';right;omega
    ·exact k3 g (Or.inr hg')
   ·intro r u hr
    have:=k4 r u hr
    rw [List.getElem?_append_left ((List.getElem?_eq_some_iff.1 this).1)]
    exact this
  ·obtain rfl:j=l.length:=by omega
   rw [List.getElem_append_right (Nat.le_refl _)]
   simp only [Nat.sub_self,List.getElem_cons_zero]
   refine ⟨q,s0,e0,hc.move (by omega) (fun k a b=>hg.block k (by omega) (fun e1=>by have:=hap k (Or.inl e1.symm);omega)),hs0,?_,?_⟩
   ·intro g hg'
    rcases hg' with hg' | hg'
    ·rcases hat with h1|h1
     ·left;exact hap g (Or.inl (h1 ▸ hg'))
     ·rw [h1] at hg';cases hg';right;omega
    ·left;exact hap g (Or.inr hg')
   ·intro r u hr
    have hl:xs.length=l.length * 3:=h.row.1
    rw [List.getElem?_append_right (by omega),hl,Nat.add_sub_cancel_left]
    exact hr
theorem T2.nl {n L:Nat} {W:World} {nv v:Value} {nms:List ByteArray} {l:List (TT n)} {xs:List Value} (h:T2 n L W nv v nms l xs):NL W nv nms:=own_nl h.nrow
theorem T2.notB {n L B:Nat} {W:World} {nv v:Value} {nms:List ByteArray} {l:List (TT n)} {xs:List Value} (h:T2 n L W nv v nms l xs) (hB:B<L):NotB B nv:=by
 intro b o sp m c e
 have:=(World.ownsRow.lt h.nrow b (by rw [e];rfl)).1
 omega
theorem T2.shape {n L:Nat} {W:World} {nv v:Value} {nms:List ByteArray} {l:List (TT n)} {xs:List Value} (h:T2 n L W nv v nms l xs):∃ a c a' c',nv=.slice a nms.length c∧v=.slice a' l.length c':=by
 obtain ⟨a,c,e,_⟩:=h.nl.len
 obtain ⟨a',c',e'⟩:=h.er.shape
 exact ⟨a,c,a',c',e,e'⟩
end Lx
end Go.Proofs.YtcnfchblfcfimaaGreatDoor
namespace Go.Proofs.YtcnfchblfcfimaaGreatDoor
namespace Lx
open Go.RowKit
def NmT (n B:Nat) (w:World) (o:Sum Int (List (List UInt8)×List (TT n)×List Tk)) (e:Ending) (w':World):Prop:=FB B w w'∧match o with
 | .inl p=>e=.panicked (pw p)
 | .inr y=>∃ nv v xs,e=.returned (.tuple #[nv,v])∧T2 n (w.heap.size + 1) w' nv v (y.1.map mkB) y.2.1 xs∧TQ w' B y.2.2
theorem NmT.bad {n B:Nat} {w w':World} {R:Sum Int (List (List UInt8)×List (TT n)×List Tk)} {p:Int} (e:R=.inl p) (hb:FB B w w'):NmT n B w R (.panicked (pw p)) w':=by
 rw [e];exact ⟨hb,rfl⟩
theorem NmT.good {n B:Nat} {w w':World} {R:Sum Int (List (List UInt8)×List (TT n)×List Tk)} {y:List (List UInt8)×List (TT n)×List Tk} {nv v:Value} {xs:List Value} (e:R=.inr y) (hb:FB B w w') (hk:T2 n (w.heap.size + 1) w' nv v (y.1.map mkB) y.2.1 xs) (ht:TQ w' B y.2.2):NmT n B w R (.returned (.tuple #[nv,v])) w':=by
 rw [e];exact ⟨hb,nv,v,xs,rfl,hk,ht⟩
structure NJ (n B f:Nat) (k:List UInt8) (M:List Tk→Sum Int (TT n×List Tk)) (w:World) (R:Sum Int (List (List UInt8)×List (TT n)×List Tk)) (W:World) (nv v:Value) (ns:List (List UInt8)) (xs:List (TT n)) (l:List Tk):Prop where
 fuel:∃ g,l.length≤g∧nmT k M g ns xs l=R
 lq:Lq W B l
 fb:FB B w W
 rows:∃ us,T2 n (w.heap.size + 1) W nv v (ns.map mkB) xs us
 lb:LB W w.heap.size B
 few:ns.length + l.length≤100000∧xs.length=ns.length∧l.length≤f
set_option maxHeartbeats 4000000 in
set_option maxRecDepth 100000 in
theorem namedt_any {n f:Nat} {M:List Tk→Sum Int (TT n×List Tk)} (hM:TpOk n 51 M f) (hG:Gd M) (k:List UInt8) (hk:k≠[]) {w:World} {B:Nat} {l:List Tk} (h:Lq w B l) (hl:l.length≤f):Calls Tryz.prog 145 #[lv B,.string (mkB k),.func (.func 51) #[] #[]] w fun e w'=>NmT n B w (namedT k M l) e w':=by
 have hB4:=h.tq.sz
 have hln:l.length≤100000:=by obtain ⟨a,c,_,_,_,_⟩:=h.tq;omega
 have H:=hide h
 have ZL:=hide (lb_new w B)
 obtain ⟨R,hR⟩:∃ R,namedT k M l=R:=⟨_,rfl⟩
 rw [hR]
 have HR:=hide hR
 have hne0:w.heap.size≠B:=by omega
 have HM:=hide hM
 have HK:=hide hk
 have HG:=hide hG
 have hnx:=has_nx (m:=[125]) h.ok (by simp)
 have hh:Hid (∀ w',Lq w' B l→Calls Tryz.prog 62 #[lv B,.string ⟨#[125]⟩] w' fun e w''=>e=.returned (.bool (hasL [125] l).1)∧TQ w'' B (hasL [125] l).2∧FB B w' w''):=fun w' hq=>hasL_any [125] hq
 clear hR h hM hG
 unfold lv at hh ⊢
 rcases hb:(hasL [125] l).1 with _|_
 ·rw [hb] at hh
  have e1:=hnx.2 hb
  rw [e1] at hh
  have HR2:Hid (nmT k M l.length [] [] l=R):=by show _=_;rw [←HR.out];simp [namedT,hb,e1]
  clear HR hb hnx e1
  go_enter Tryz.func145, Tryz.ntmps145
  go_wp2_with (first|(go_at_call 62;refine (hh.out _ H.out.al).mono ?_;rintro e w3 ⟨rfl,hq3,hb3⟩;have kL:=(ZL.out.fb hb3 hne0).cells;have kl:=(ZL.out.fb hb3 hne0).lt))
  have start:Hid (NJ n B f k M w R w3 (.slice none 0 0) (.slice none 0 0) [] [] l):=⟨⟨_,Nat.le_refl _,HR2.out⟩,H.out.al.fb hb3 hq3 H.out.ok,(FB.of (below_al (Below.refl _ _))).trans hb3,⟨[],T2.nil _ _ _⟩,ZL.out.fb hb3 hne0,by simp;omega,rfl,hl⟩
  clear HR2 hq3 hb3 kL kl ZL hh H hl
  go_loopw [6,7] (fun nv v w'=>∃ ns xs l',Hid (NJ n B f k M w R w' nv v ns xs l')) (fun _ _ w'=>lenB w' B)
  case atStart=>exact ⟨[],[],l,start.out⟩
  case round =>
   obtain ⟨ns,xs,l1,HI⟩:=hrel
   clear start
   obtain ⟨⟨g,hg,hfu⟩,hlq,hfb,⟨us,hE⟩,hlb,hfew1,hfew2,hfew3⟩:=HI.out
   have hBw:B<w.heap.size + 1:=by omega
   obtain ⟨a,c,a',c',e1,e2⟩:=hE.shape
   rw [List.length_map] at e1
   rw [hfew2] at e2
   have hnot:=hE.notB hBw
   have hnl:=hE.nl
   obtain ⟨N,hN⟩:∃ N,ns.length=N:=⟨_,rfl⟩
   rw [hN] at e1 e2 hfew1 hfew2
   subst e1 e2
   have h1:0<l1.length:=by obtain ⟨t,r,rfl⟩:=hlq.ok.cons;simp
   obtain ⟨g,rfl⟩:∃ g',g=g' + 1:=⟨g - 1,by omega⟩
   have hlen:=hlq.tq.lenB
   have HNM:Hid (∀ w',Lq w' B l1→NL w' (.slice a N c) (ns.map mkB)→Calls Tryz.prog 117 #[lv B,.slice a N c] w' fun e w''=>NP B w' (nameL ns l1) e w''):=fun w' p1 p2=>nameL_any ns p1 p2 hnot
   have LQ:=hide hlq
   have FBw:=hide hfb
   have HE:=hide hE
   have LBw:=hide hlb
   have NL0:=hide hnl
   have hc0:=hlb.cells
   have hN2:(ns.map mkB).length=N:=by rw [List.length_map];exact hN
   have HN2:=hide hN2
   have hx13:xs.length=N:=hfew2
   have HX:=hide hx13
   have HF3:=hide hfew3
   have hN200:N≤200000:=by omega
   have Hlen:=hide hlen
   have FU:=hide hfu
   have hG1:=hide hg
   clear HI hfu hlq hfb hE hlb hnl hnot hN2 hx13 hfew3 hlen hfew2 hg
   unfold lv at HNM
   go_wp2_with (go_at_call 117;refine Sto.out ?_)
   refine Sto.mk ?_
   rcases hs:nameL ns l1 with p|s
   ·rw [hs] at HNM
    have e2:Hid (R=.inl p):=by show _=_;rw [←FU.out];simp [nmT,hs]
    refine (HNM.out _ LQ.out NL0.out).mono ?_
    rintro e w1 ⟨hb1,rfl⟩
    clear FU hs
    first|exact ⟨rfl,NmT.bad e2.out (FBw.out.trans hb1)⟩|(go_wp2_with fail;exact ⟨rfl,NmT.bad e2.out (FBw.out.trans hb1)⟩)
   rw [hs] at HNM
   have N1:=hide (name_nx LQ.out.ok hs)
   refine (HNM.out _ LQ.out NL0.out).mono ?_
   rintro e w1 ⟨hb1,rfl,hq1⟩
   have Q1:=hide (LQ.out.fb hb1 hq1 N1.out.1)
   have E1:=hide (HE.out.fb hb1 hBw)
   have L1:=hide (LBw.out.fb hb1 hne0)
   have F1:=hide (FBw.out.trans hb1)
   clear hb1 hq1 hc0 LQ HE LBw FBw NL0 HNM
   go_wp2_with (at_builtin;refine Sto.out ?_)
   refine Sto.mk ?_
   refine app_1s rfl (.tmp 10) (.tmp 14) rfl (w.heap.size + 1) (.slice a N c) N (scs (ns.map mkB)) rfl (own_len E1.out.al.nrow HN2.out) w1.heap.size 1 rfl (mkB s.1) (cell_one_new _ _ _ 0 _ rfl) hN200 (by rw [World.size_alloc];have:=F1.out.size;omega) ?_
   intro av cv w2 o2 g2 at2
   have hr2:=E1.out.lt
   have E3:=hide (E1.out.al.name HN2.out g2.out o2.out at2.out)
   have Q2:=hide (Q1.out.al.grown g2.out (fun g hg=>by have:=(hr2 g (Or.inr hg)).1;omega))
   have L2:=hide ((L1.out.below (below_al (Below.refl _ _))).grown g2.out (fun g hg=>by have:=(hr2 g (Or.inr hg)).1;omega))
   have F2:=hide (F1.out.al.grown g2.out (fun g hg=>by have:=(hr2 g (Or.inr hg)).1;omega))
   have kL2:=L2.out.cells
   clear o2 g2 at2 hr2 E1 Q1 L1 F1
   have HW:Hid (∀ w',Lq w' B s.2→Calls Tryz.prog 96 #[lv B,.string (mkB k)] w' fun e w''=>WP B w' (wantL k s.2) e w''):=fun w' p1=>wantL_any k p1
   unfold lv at HW
   go_wp2_with (go_at_call 96;refine Sto.out ?_)
   refine Sto.mk ?_
   rcases hw:wantL k s.2 with p|l2
   ·rw [hw] at HW
    have e2:Hid (R=.inl p):=by show _=_;rw [←FU.out];simp [nmT,hs,hw]
    refine (HW.out _ Q2.out).mono ?_
    rintro e w3 ⟨hb3,rfl⟩
    clear FU hs hw
    first|exact ⟨rfl,NmT.bad e2.out (F2.out.trans hb3)⟩|(go_wp2_with fail;exact ⟨rfl,NmT.bad e2.out (F2.out.trans hb3)⟩)
   rw [hw] at HW
   have N2:=hide (want_nx N1.out.1 HK.out hw)
   refine (HW.out _ Q2.out).mono ?_
   rintro e w3 ⟨hb3,rfl,hq3⟩
   have Q3:=hide (Q2.out.fb hb3 hq3 N2.out.1)
   have E4:=hide (E3.out.fb hb3 hBw)
   have L3:=hide (L2.out.fb hb3 hne0)
   have F3:=hide (F2.out.trans hb3)
   have kL3:=L3.out.cells
   clear hb3 hq3 Q2 E3 L2 F2 kL2 HW
   have HI:Hid (∀ w',Lq w' B l2→Calls Tryz.prog 51 #[lv B] w' fun e w''=>PT n B w' (M l2) e w''):=fun w' p1=>HM.out w' B l2 p1 (by have:=N1.out.2;have:=N2.out.2;have:=HF3.out;omega)
   unfold lv at HI
   go_wp2_with (go_at_call 51;refine Sto.out ?_)
   refine Sto.mk ?_
   rcases hm:M l2 with p|x
   ·rw [hm] at HI
    have e2:Hid (R=.inl p):=by show _=_;rw [←FU.out];simp [nmT,hs,hw,hm]
    refine (HI.out _ Q3.out).mono ?_
    rintro e w4 ⟨hb4,rfl⟩
    clear FU hs hw hm
    first|exact ⟨rfl,NmT.bad e2.out (F3.out.trans hb4)⟩|(go_wp2_with fail;exact ⟨rfl,NmT.bad e2.out (F3.out.trans hb4)⟩)
   rw [hm] at HI
   have N3:=hide (HG.out _ _ N2.out.1 hm)
   refine (HI.out _ Q3.out).mono ?_
   rintro e w4 ⟨hb4,q,rfl,hk4,hq4⟩
   have K4:=hide hk4
   obtain ⟨b1,b2,b3,b4,b5,b6,hqs⟩:=hk4.rd.shape
   subst hqs
   have Q4:=hide (Q3.out.fb hb4 hq4 N3.out.1)
   have hr4:=hide (E4.out.lt)
   have E5:=hide (E4.out.fb hb4 hBw)
   have L4:=hide (L3.out.fb hb4 hne0)
   have F4:=hide (F3.out.trans hb4)
   have kz4:=hb4.size
   have kz3:=F3.out.size
   have kz5:=L3.out.lt
   clear hb4 hq4 hk4 Q3 E4 L3 kL3 HI
   unfold tcl tvs
   dsimp only
   go_wp2_with (at_builtin;refine Sto.out ?_)
   refine Sto.mk ?_
   refine app_t3 rfl (.tmp 19) (.tmp 23) rfl (w.heap.size + 1) (.slice a' N c') N us rfl (row_len E5.out.al.row HX.out) w4.heap.size 1 rfl (thd n x.1) ⟨.slice b1 b2 b3,.slice b4 b5 b6⟩ rfl rfl ((ty_new _ _ _).range) hN200 (by rw [World.size_alloc];have:=F4.out.size;omega) ?_
   intro av2 cv2 w5 o5 g5 at5
   have hr5:=E5.out.lt
   have E6:=hide (E5.out.al.push HX.out K4.out.al (by omega) (fun g hg=>(hr4.out g hg).2) g5.out o5.out at5.out)
   have Q5:=hide (Q4.out.al.grown g5.out (fun g hg=>by have:=(hr5 g (Or.inl hg)).1;omega))
   have L5:=hide ((L4.out.below (below_al (Below.refl _ _))).grown g5.out (fun g hg=>by have:=(hr5 g (Or.inl hg)).1;omega))
   have F5:=hide (F4.out.al.grown g5.out (fun g hg=>by have:=(hr5 g (Or.inl hg)).1;omega))
   have kL5:=L5.out.cells
   clear o5 g5 at5 hr5 hr4 E5 Q4 L4 F4 K4
   have hhx:=has_nx (m:=[125]) N3.out.1 (by simp)
   have HH:Hid (∀ w',Lq w' B x.2→Calls Tryz.prog 62 #[lv B,.string ⟨#[125]⟩] w' fun e w''=>e=.returned (.bool (hasL [125] x.2).1)∧TQ w'' B (hasL [125] x.2).2∧FB B w' w''):=fun w' hq=>hasL_any [125] hq
   unfold lv at HH
   go_wp2_with (go_at_call 62;refine Sto.out ?_)
   refine Sto.mk ?_
   rcases hh:(hasL [125] x.2).1 with _|_
   rotate_left
   ·rw [hh] at HH
    have N6:=hide (hhx.1 hh).1
    have e2:Hid (R=.inr (ns++[s.1],xs++[x.1],(hasL [125] x.2).2)):=by show _=_;rw [←FU.out];simp [nmT,hs,hw,hm,hh]
    clear FU hs hw hm hh hhx
    refine (HH.out _ Q5.out).mono ?_
    rintro e w6 ⟨rfl,hq6,hb6⟩
    have Q6:=hide (Q5.out.fb hb6 hq6 N6.out)
    have E7:=hide (E6.out.fb hb6 hBw)
    have F6:=hide (F5.out.trans hb6)
    clear hb6 hq6 Q5 E6 L5 F5 kL5
    go_wp2_with fail
    go_ret2
    refine NmT.good (y:=(ns++[s.1],xs++[x.1],(hasL [125] x.2).2)) e2.out F6.out (xs:=us++(tcl (thd n x.1) ⟨.slice b1 b2 b3,.slice b4 b5 b6⟩).toList) ?_ Q6.out.tq
    show T2 _ _ _ _ _ ((ns++[s.1]).map mkB) _ _
    rw [List.map_append]
    exact E7.out
   rw [hh,hhx.2 hh] at HH
   have N6:=hide N3.out.1
   have hh2:=hhx.2 hh
   refine (HH.out _ Q5.out).mono ?_
   rintro e w6 ⟨rfl,hq6,hb6⟩
   have Q6:=hide (Q5.out.fb hb6 hq6 N6.out)
   have E7:=hide (E6.out.fb hb6 hBw)
   have L6:=hide (L5.out.fb hb6 hne0)
   have F6:=hide (F5.out.trans hb6)
   have kL6:=L6.out.cells
   clear hb6 hq6 Q5 E6 L5 F5 kL5 HH
   have HC:Hid (∀ w',Lq w' B x.2→Calls Tryz.prog 96 #[lv B,.string ⟨#[44]⟩] w' fun e w''=>WP B w' (wantL [44] x.2) e w''):=fun w' p1=>wantL_any [44] p1
   unfold lv at HC
   go_wp2_with (go_at_call 96;refine Sto.out ?_)
   refine Sto.mk ?_
   rcases hc:wantL [44] x.2 with p|l5
   ·rw [hc] at HC
    have e2:Hid (R=.inl p):=by show _=_;rw [←FU.out];simp [nmT,hs,hw,hm,hh,hh2,hc]
    refine (HC.out _ Q6.out).mono ?_
    rintro e w7 ⟨hb7,rfl⟩
    clear FU hs hw hm hh hhx hh2 hc
    first|exact ⟨rfl,NmT.bad e2.out (F6.out.trans hb7)⟩|(go_wp2_with fail;exact ⟨rfl,NmT.bad e2.out (F6.out.trans hb7)⟩)
   rw [hc] at HC
   have N7:=hide (want_nx N3.out.1 (by simp) hc)
   have e2:Hid (nmT k M g (ns++[s.1]) (xs++[x.1]) l5=R):=by show _=_;rw [←FU.out];simp [nmT,hs,hw,hm,hh,hh2,hc]
   clear FU hs hw hm hh hhx hh2 hc
   refine (HC.out _ Q6.out).mono ?_
   rintro e w7 ⟨hb7,rfl,hq7⟩
   go_wp2_with fail
   have z1:=N1.out.2
   have z2:=N2.out.2
   have z3:=N3.out.2
   have z7:=N7.out.2
   have zg:=hG1.out
   refine ⟨⟨ns++[s.1],xs++[x.1],l5,⟨g,by omega,e2.out⟩,Q6.out.fb hb7 hq7 N7.out.1,F6.out.trans hb7,⟨us++(tcl (thd n x.1) ⟨.slice b1 b2 b3,.slice b4 b5 b6⟩).toList,?_⟩,L6.out.fb hb7 hne0,?_,?_,?_⟩,?_⟩
   ·rw [List.map_append]
    exact E7.out.fb hb7 hBw
   ·rw [List.length_append,List.length_singleton,hN];omega
   ·rw [List.length_append,List.length_append,List.length_singleton,List.length_singleton,hN,HX.out]
   ·have:=HF3.out;omega
   ·rw [Hlen.out,hq7.lenB];omega
 ·rw [hb] at hh
  have e2:Hid (R=.inr ([],[],(hasL [125] l).2)):=by show _=_;rw [←HR.out];simp [namedT,hb]
  clear HR hb hnx
  go_enter Tryz.func145, Tryz.ntmps145
  go_wp2_with (first|(go_at_call 62;refine (hh.out _ H.out.al).mono ?_;rintro e w3 ⟨rfl,hq3,hb3⟩;have kL:=(ZL.out.fb hb3 hne0).cells;have kl:=(ZL.out.fb hb3 hne0).lt))
  go_ret2
  exact NmT.good (xs:=[]) e2.out ((FB.of (below_al (Below.refl _ _))).trans hb3) (T2.nil _ _ _) hq3
end Lx
end Go.Proofs.YtcnfchblfcfimaaGreatDoor
namespace Go.Proofs.YtcnfchblfcfimaaGreatDoor
namespace Lx
open Go.RowKit
theorem kq_row {n L s:Nat} {W:World} {nv v:Value} {nms:List ByteArray} {l:List (TT n)} {xs:List Value} (h:T2 n L W nv v nms l xs) (k:Int) (hs:s≤L) (hW:s≤W.heap.size):KQ (n + 1) W ((⟨k,nms⟩,l):TT (n + 1)) ⟨nv,v⟩ s W.heap.size :=
 ⟨hW,Nat.le_refl _,fun W' h'=>⟨own_nl2 h.nrow fun k a b=>h' k (by omega) b,h.er.el fun k a b=>h' k (by omega) b⟩⟩
set_option maxHeartbeats 2000000 in
set_option maxRecDepth 100000 in
theorem fields_any {n f:Nat} {M:List Tk→Sum Int (TT n×List Tk)} (hM:TpOk n 51 M f) (hG:Gd M) (k:Int) {w:World} {B:Nat} {l:List Tk} (h:Lq w B l) (hl:l.length≤f):Calls Tryz.prog 97 #[lv B,.int .i64 k] w fun e w'=>PT (n + 1) B w (fdT M k l) e w':=by
 have hB4:=h.tq.sz
 have H:=hide h
 have HM:=hide hM
 have HG:=hide hG
 have HL:=hide hl
 have ZL:=hide (lb_new w B)
 have Z0:=hide (tz_new (w.alloc (.cells #[.func (.func 114) #[] #[.pointer (some ⟨B,0,none⟩)],.func (.func 115) #[] #[.pointer (some ⟨B,0,none⟩)]] 83)))
 rw [World.size_alloc] at Z0
 have hw:Hid (∀ w',Lq w' B l→Calls Tryz.prog 96 #[lv B,.string ⟨#[123]⟩] w' fun e w''=>WP B w' (wantL [123] l) e w''):=fun w' p=>wantL_any [123] p
 obtain ⟨R,hR⟩:∃ R,fdT M k l=R:=⟨_,rfl⟩
 rw [hR]
 have HR:=hide hR
 have hne:w.heap.size + 1≠B:=by omega
 have hne0:w.heap.size≠B:=by omega
 clear hR h hM hG hl
 unfold lv at hw ⊢
 go_enter Tryz.func97, Tryz.ntmps97
 go_wp2_with (go_at_call 96;refine Sto.out ?_)
 refine Sto.mk ?_
 refine (hw.out _ (H.out.below (below_al (below_al (Below.refl _ _))))).mono ?_
 rcases hx:wantL [123] l with p|l1
 ·rintro e w3 ⟨hb3,rfl⟩
  have e2:Hid (R=.inl p):=by show _=_;rw [←HR.out];simp [fdT,hx]
  clear HR hx
  first|exact ⟨rfl,PT.bad e2.out ((FB.of (below_al (below_al (Below.refl _ _)))).trans hb3)⟩|(go_wp2_with fail;exact ⟨rfl,PT.bad e2.out ((FB.of (below_al (below_al (Below.refl _ _)))).trans hb3)⟩)
 rintro e w3 ⟨hb3,rfl,hq3⟩
 have N1:=hide (want_nx H.out.ok (by simp) hx)
 have Q3:=hide ((H.out.below (below_al (below_al (Below.refl _ _)))).fb hb3 hq3 N1.out.1)
 have F3:=hide ((FB.of (below_al (below_al (Below.refl _ _)))).trans hb3)
 have L3:=hide ((ZL.out.below (below_al (Below.refl _ _))).fb hb3 hne0)
 have Z3:=hide (Z0.out.fb hb3 hne)
 have hz3:=hb3.size
 simp only [World.size_alloc] at hz3
 have kL:=L3.out.cells
 have hn:Hid (∀ w',Lq w' B l1→Calls Tryz.prog 145 #[lv B,.string ⟨#[58]⟩,.func (.func 51) #[] #[]] w' fun e w''=>NmT n B w' (namedT [58] M l1) e w''):=fun w' p=>namedt_any HM.out HG.out [58] (by simp) p (by have:=N1.out.2;have:=HL.out;omega)
 clear hb3 hq3 hw ZL Z0
 unfold lv at hn
 go_wp2_with (go_at_call 145;refine Sto.out ?_)
 refine Sto.mk ?_
 refine (hn.out _ Q3.out).mono ?_
 rcases hy:namedT [58] M l1 with p|y
 ·rintro e w4 ⟨hb4,rfl⟩
  have e2:Hid (R=.inl p):=by show _=_;rw [←HR.out];simp [fdT,hx,hy]
  clear HR hx hy
  first|exact ⟨rfl,PT.bad e2.out (F3.out.trans hb4)⟩|(go_wp2_with fail;exact ⟨rfl,PT.bad e2.out (F3.out.trans hb4)⟩)
 ·rintro e w4 ⟨hb4,nv,v,us,rfl,hE,hq4⟩
  have e2:Hid (R=.inr ((⟨k,y.1.map mkB⟩,y.2.1),y.2.2)):=by show _=_;rw [←HR.out];simp [fdT,hx,hy]
  obtain ⟨a,c,a',c',e3,e4⟩:=hE.shape
  rw [e3,e4] at hE ⊢
  have HE:=hide hE
  have hz4:=hb4.size
  have kz:=(Z3.out.fb hb4 hne).cells
  have kf:=(Z3.out.fb hb4 hne).frz
  have kl:=(Z3.out.fb hb4 hne).lt
  have HB4:=hide hb4
  have HQ4:=hide hq4
  clear HR hx hy e3 e4 hE hb4 hq4 kL
  go_wp2_with fail
  refine bodyPost_ret (v:=.agg (tcl (⟨k,y.1.map mkB⟩:Th) ⟨.slice a (y.1.map mkB).length c,.slice a' y.2.1.length c'⟩)) (by simp [results,Tryz.results97,go_sem,tcl,tvs, *]) rfl (PT.good (n:=n + 1) (x:=((⟨k,y.1.map mkB⟩,y.2.1),y.2.2)) e2.out ?_ ?_ ?_)
  ·(iterate 3 (refine FB.set ?_ (by omega)))
   exact F3.out.trans HB4.out
  ·refine KQ.fin (s:=w3.heap.size) (e:=w4.heap.size) ?_ (by omega)
   (iterate 3 (refine KQ.set ?_ (by omega)))
   exact kq_row HE.out k (by omega) (by omega)
  ·(iterate 3 (refine TQ.set ?_ (by omega)))
   exact HQ4.out
end Lx
end Go.Proofs.YtcnfchblfcfimaaGreatDoor
namespace Go.Proofs.YtcnfchblfcfimaaGreatDoor
namespace Lx
open Go.RowKit
def wdQ (j:Nat):List UInt8:=if j=1 then [97,110,121] else if j=2 then [110,117,108,108] else if j=3 then [98,111,111,108] else if j=4 then [110,117,109] else if j=5 then [105,110,116] else if j=6 then [102,108,111,97,116] else if j=7 then [116,101,120,116] else if j=8 then [98,121,116,101,115] else []
theorem ix_pt (j:Nat) (hj:j<9) (w:World):(Instr.index 112 (.agg ptC) (.int .i64 j)).run Tryz.prog w=.ok (.string (mkB (wdQ j))) w:=by
 match j,hj with
 | 0,_=>exact (show (Instr.index 112 (.agg ptC) (.int .i64 0)).run Tryz.prog w=.ok (.string ⟨#[]⟩) w by kernel_rfl)
 | 1,_=>exact (show (Instr.index 112 (.agg ptC) (.int .i64 1)).run Tryz.prog w=.ok (.string ⟨#[97,110,121]⟩) w by kernel_rfl)
 | 2,_=>exact (show (Instr.index 112 (.agg ptC) (.int .i64 2)).run Tryz.prog w=.ok (.string ⟨#[110,117,108,108]⟩) w by kernel_rfl)
 | 3,_=>exact (show (Instr.index 112 (.agg ptC) (.int .i64 3)).run Tryz.prog w=.ok (.string ⟨#[98,111,111,108]⟩) w by kernel_rfl)
 | 4,_=>exact (show (Instr.index 112 (.agg ptC) (.int .i64 4)).run Tryz.prog w=.ok (.string ⟨#[110,117,109]⟩) w by kernel_rfl)
 | 5,_=>exact (show (Instr.index 112 (.agg ptC) (.int .i64 5)).run Tryz.prog w=.ok (.string ⟨#[105,110,116]⟩) w by kernel_rfl)
 | 6,_=>exact (show (Instr.index 112 (.agg ptC) (.int .i64 6)).run Tryz.prog w=.ok (.string ⟨#[102,108,111,97,116]⟩) w by kernel_rfl)
 | 7,_=>exact (show (Instr.index 112 (.agg ptC) (.int .i64 7)).run Tryz.prog w=.ok (.string ⟨#[116,101,120,116]⟩) w by kernel_rfl)
 | 8,_=>exact (show (Instr.index 112 (.agg ptC) (.int .i64 8)).run Tryz.prog w=.ok (.string ⟨#[98,121,116,101,115]⟩) w by kernel_rfl)
theorem ptO_of {o:List UInt8} {j:Nat} (hj:j<9) (h:wdQ j≠[]) (e:wdQ j=o):ptO o=some (j:Int):=by
 subst e
 match j,hj with
 | 0,_=>exact absurd rfl h
 | 1,_=>rfl
 | 2,_=>rfl
 | 3,_=>rfl
 | 4,_=>rfl
 | 5,_=>rfl
 | 6,_=>rfl
 | 7,_=>rfl
 | 8,_=>rfl
theorem ptO_no {o:List UInt8} (h:∀ j,j<9→wdQ j≠[]→wdQ j≠o):ptO o=none:=by
 have h1:=h 1 (by omega) (by decide)
 have h2:=h 2 (by omega) (by decide)
 have h3:=h 3 (by omega) (by decide)
 have h4:=h 4 (by omega) (by decide)
 have h5:=h 5 (by omega) (by decide)
 have h6:=h 6 (by omega) (by decide)
 have h7:=h 7 (by omega) (by decide)
 have h8:=h 8 (by omega) (by decide)
 simp only [wdQ] at h1 h2 h3 h4 h5 h6 h7 h8
 unfold ptO
 rw [if_neg (fun e=>h1 (by rw [e];rfl)),if_neg (fun e=>h2 (by rw [e];rfl)),if_neg (fun e=>h3 (by rw [e];rfl)),if_neg (fun e=>h4 (by rw [e];rfl)),if_neg (fun e=>h5 (by rw [e];rfl)),if_neg (fun e=>h6 (by rw [e];rfl)),if_neg (fun e=>h7 (by rw [e];rfl)),if_neg (fun e=>h8 (by rw [e];rfl))]
structure SQ (w:World) (B:Nat) (r:List Tk) (i:Nat) (t:Tk) (W:World):Prop where
 tq:TQ W B r
 gp:Gp W
 lo:15≤B
 lb:LB W w.heap.size B
 ex:Ty W (w.heap.size + 1) tz tzs
 tb:Tb W i t
 fb:FB B w W
theorem SQ.after {w W W1:World} {B i:Nat} {t:Tk} {r r':List Tk} (h:SQ w B r i t W) (hB:B + 4≤w.heap.size) (hi:w.heap.size≤i) (k:FB B W W1) (hq:TQ W1 B r'):SQ w B r' i t W1 :=
 ⟨hq,h.gp.fb k h.lo,h.lo,h.lb.fb k (by omega),h.ex.fb k (by omega),h.tb.fb k (by omega),h.fb.trans k⟩
theorem SQ.below {w W W1:World} {B i:Nat} {t:Tk} {r:List Tk} (h:SQ w B r i t W) (hB:B + 4≤w.heap.size) (hi:w.heap.size≤i) (k:Below W.heap.size W W1):SQ w B r i t W1:=h.after hB hi (FB.of k) (h.tq.below k)
theorem SQ.lq {w W:World} {B i:Nat} {t:Tk} {r:List Tk} (h:SQ w B r i t W) (hk:Okl r):Lq W B r:=⟨h.tq,hk,h.gp,h.lo⟩
theorem kq_one {m s:Nat} {W:World} {x:TT m} {q:S2} (k:Int) (h:KQ m W x q s W.heap.size):KQ (m + 1) (W.alloc (.cells (tcl (thd m x) q) 48)) ((⟨k,[]⟩,[x]):TT (m + 1)) ⟨.slice none 0 0,.slice (some ⟨W.heap.size,0,none⟩) 1 1⟩ s (W.heap.size + 1):=by
 have hs:=h.1
 refine ⟨by omega,by simp,fun W' h'=>⟨Or.inl ⟨rfl,rfl⟩,Or.inr ⟨W.heap.size,0,1,none,rfl,Nat.le_refl _,by decide,fun _=>?_,fun i hi=>?_⟩⟩⟩
 ·have hb:=(h' W.heap.size (by omega) (by omega)).trans (show _=some (Obj.cells (tcl (thd m x) q) 48 (0,0)) from Array.getElem?_push_size)
  exact ⟨rfl,(Array.getElem?_eq_some_iff.1 hb).1⟩
 ·have hb:=(h' W.heap.size (by omega) (by omega)).trans (show _=some (Obj.cells (tcl (thd m x) q) 48 (0,0)) from Array.getElem?_push_size)
  have hi0:i=0:=by simp at hi;omega
  subst hi0
  refine ⟨q.ns,q.ls,?_,?_⟩
  ·have:=(show Ty W' W.heap.size (thd m x) q from ⟨hb⟩).range
   simpa [tcl] using this
  ·refine h.2.2 W' fun k a b=>(h' k a (by omega)).trans ?_
   exact Below.heap_alloc _ _ _ b
theorem kq_nil {m s:Nat} {W:World} (k:Int) (hs:s≤W.heap.size):KQ (m + 1) W ((⟨k,[]⟩,[]):TT (m + 1)) tzs s W.heap.size :=
 ⟨hs,Nat.le_refl _,fun W' _=>⟨Or.inl ⟨rfl,rfl⟩,Or.inl ⟨rfl,rfl⟩⟩⟩
set_option maxHeartbeats 4000000 in
set_option maxRecDepth 100000 in
theorem type_step {m f:Nat} {M:List Tk→Sum Int (TT m×List Tk)} (hM:TpOk m 51 M f) (hG:Gd M) {w:World} {B:Nat} {l:List Tk} (h:Lq w B l) (hl:l.length≤f + 1):Calls Tryz.prog 51 #[lv B] w fun e w'=>PT (m + 1) B w (tyT M l) e w':=by
 have hB4:=h.tq.sz
 obtain ⟨t,r,rfl⟩:=h.ok.cons
 have hl1:Hid (r.length≤f):=by show _≤_;simpa using hl
 have hok:Hid (ownT t≠[]→Okl r):=fun e=>h.ok.tail (own_w e)
 have H:=hide h
 have HM:=hide hM
 have HG:=hide hG
 have ZL:=hide (lb_new w B)
 have Z0:=hide (tz_new (w.alloc (.cells #[.func (.func 114) #[] #[.pointer (some ⟨B,0,none⟩)],.func (.func 115) #[] #[.pointer (some ⟨B,0,none⟩)]] 83)))
 rw [World.size_alloc] at Z0
 have hx:Hid (∀ w',Below w.heap.size w w'→Calls Tryz.prog 115 #[.pointer (some ⟨B,0,none⟩)] w' fun e w''=>e=.returned (tkV t)∧TQ w'' B r∧FB B w' w''):=fun w' hb=>take_any (H.out.tq.below hb)
 have ho:=hide (own_any t)
 unfold tkV at hx ho
 have hne:w.heap.size + 1≠B:=by omega
 have hne0:w.heap.size≠B:=by omega
 obtain ⟨R,hR⟩:∃ R,tyT M (t :: r)=R:=⟨_,rfl⟩
 have HR:=hide hR
 rw [hR]
 obtain ⟨S,hS⟩:∃ S,mkB (ownT t)=S:=⟨_,rfl⟩
 rw [hS] at ho
 clear hR h hl hM hG
 unfold lv
 go_enter Tryz.func51, Tryz.ntmps51
 go_wp2_with (go_at_call 115;refine Sto.out ?_)
 refine Sto.mk ((hx.out _ (below_al (below_al (Below.refl _ _)))).mono ?_)
 rintro e w3 ⟨rfl,hq3,hb3⟩
 have F3:=hide ((FB.of (below_al (below_al (Below.refl _ _)))).trans hb3)
 have hz3:=hb3.size
 simp only [World.size_alloc] at hz3
 have P3:Hid (SQ w B r w3.heap.size t (w3.alloc (.cells #[.int .i64 t.w,.string (mkB t.s),.int .i64 t.p] 88))):=⟨hq3.al,(H.out.gp.fb F3.out H.out.lo).below (below_al (Below.refl _ _)),H.out.lo,(((ZL.out.below (below_al (Below.refl _ _))).fb hb3 hne0)).below (below_al (Below.refl _ _)),(Z0.out.fb hb3 hne).below (below_al (Below.refl _ _)),tb_new w3 t,F3.out.al⟩
 have hi3:w.heap.size≤w3.heap.size:=by omega
 clear hq3 hb3 F3 hx ZL Z0
 go_wp2_with (go_at_call 95;refine Sto.out ?_)
 refine Sto.mk ((ho.out _).mono ?_)
 rintro e w4 ⟨rfl,hb4⟩
 have S4:=hide (P3.out.below hB4 hi3 hb4)
 clear hb4 P3
 have kL:=S4.out.lb.cells
 have hu:tyT M (t :: r)=(if ownT t=[108,105,115,116] then ltT M r
  else if ownT t=[114,101,99,111,114,100] then fdT M 10 r
  else if ownT t=[117,110,105,111,110] then fdT M 11 r
  else match ptO (ownT t) with
   | some k=>.inr ((⟨k,[]⟩,[]),r)
   | none=>.inl t.p):=rfl
 rw [HR.out] at hu
 by_cases n0:ownT t=[108,105,115,116]
 ·have hS':S=⟨#[108,105,115,116]⟩:=by rw [←hS,n0];rfl
  have OK:=hide (hok.out (by rw [n0];simp))
  rw [if_pos n0] at hu
  have HU:=hide hu
  subst hS'
  clear hS hu n0 ho
  have W1:Hid (∀ W,Lq W B r→Calls Tryz.prog 96 #[lv B,.string ⟨#[40]⟩] W fun e w'=>WP B W (wantL [40] r) e w'):=fun W q=>wantL_any [40] q
  unfold lv at W1
  go_wp2_with (go_at_call 96;refine Sto.out ?_)
  refine Sto.mk ((W1.out _ (S4.out.lq OK.out)).mono ?_)
  rcases h1:wantL [40] r with p|l1
  ·rintro e w5 ⟨hb5,rfl⟩
   have e2:Hid (R=.inl p):=by show _=_;rw [HU.out];simp [ltT,h1]
   clear HU h1
   first|exact ⟨rfl,PT.bad e2.out (S4.out.fb.trans hb5)⟩|(go_wp2_with fail;exact ⟨rfl,PT.bad e2.out (S4.out.fb.trans hb5)⟩)
  rintro e w5 ⟨hb5,rfl,hq5⟩
  have N1:=hide (want_nx OK.out (by simp) h1)
  have S5:=hide (S4.out.after hB4 hi3 hb5 hq5)
  have z5:=hb5.size
  clear hb5 hq5 W1 kL
  have kL:=S5.out.lb.cells
  have MM:Hid (∀ W,Lq W B l1→Calls Tryz.prog 51 #[lv B] W fun e w'=>PT m B W (M l1) e w'):=fun W q=>HM.out W B l1 q (by have:=N1.out.2;have:=hl1.out;omega)
  unfold lv at MM
  go_wp2_with (go_at_call 51;refine Sto.out ?_)
  refine Sto.mk ((MM.out _ (S5.out.lq N1.out.1)).mono ?_)
  rcases h2:M l1 with p|x
  ·rintro e w6 ⟨hb6,rfl⟩
   have e2:Hid (R=.inl p):=by show _=_;rw [HU.out];simp [ltT,h1,h2]
   clear HU h1 h2
   first|exact ⟨rfl,PT.bad e2.out (S5.out.fb.trans hb6)⟩|(go_wp2_with fail;exact ⟨rfl,PT.bad e2.out (S5.out.fb.trans hb6)⟩)
  rintro e w6 ⟨hb6,q,rfl,hk6,hq6⟩
  have N2:=hide (HG.out _ _ N1.out.1 h2)
  obtain ⟨a,mm,c,a',m',c',hqs⟩:=hk6.rd.shape
  subst hqs
  have K6:=hide hk6
  have S6:=hide (S5.out.after hB4 hi3 hb6 hq6)
  have z6:=hb6.size
  have z50:=S5.out.fb.size
  have zex5:=S5.out.ex.lt
  clear hb6 hq6 hk6 MM kL
  have S7:=hide (S6.out.below hB4 hi3 (below_al (o:=.cells (tcl (thd m x.1) ⟨.slice a mm c,.slice a' m' c'⟩) 48) (Below.refl _ _)))
  unfold tcl tvs at S7
  dsimp only at S7
  have kL:=S7.out.lb.cells
  have W3:Hid (∀ W,Lq W B x.2→Calls Tryz.prog 96 #[lv B,.string ⟨#[41]⟩] W fun e w'=>WP B W (wantL [41] x.2) e w'):=fun W q=>wantL_any [41] q
  unfold lv at W3
  unfold tcl tvs
  dsimp only
  go_wp2_with (go_at_call 96;refine Sto.out ?_)
  refine Sto.mk ((W3.out _ (S7.out.lq N2.out.1)).mono ?_)
  rcases h3:wantL [41] x.2 with p|l3
  ·rintro e w8 ⟨hb8,rfl⟩
   have e2:Hid (R=.inl p):=by show _=_;rw [HU.out];simp [ltT,h1,h2,h3]
   clear HU h1 h2 h3
   first|exact ⟨rfl,PT.bad e2.out (S7.out.fb.trans hb8)⟩|(go_wp2_with fail;exact ⟨rfl,PT.bad e2.out (S7.out.fb.trans hb8)⟩)
  rintro e w8 ⟨hb8,rfl,hq8⟩
  have e2:Hid (R=.inr ((⟨9,[]⟩,[x.1]),l3)):=by show _=_;rw [HU.out];simp [ltT,h1,h2,h3]
  have hn6:w6.heap.size≠B:=by omega
  have X8:=hide ((ty_new w6 (thd m x.1) ⟨.slice a mm c,.slice a' m' c'⟩).fb hb8 hn6)
  have K8:=hide ((K6.out.al (o:=.cells (tcl (thd m x.1) ⟨.slice a mm c,.slice a' m' c'⟩) 48)).fb hb8 (by omega))
  have S8:=hide (S7.out.after hB4 hi3 hb8 hq8)
  have z8:=hb8.size
  simp only [World.size_alloc] at z8
  clear hb8 hq8 W3 kL HU h1 h2 h3 S6 S7 K6
  have x0:=X8.out.cells
  have k0:=S8.out.ex.cells
  have kf:=S8.out.ex.frz
  have kl:=S8.out.ex.lt
  go_wp2_with fail
  refine bodyPost_ret (v:=.agg (tcl (⟨9,[]⟩:Th) ⟨.slice none 0 0,.slice (some ⟨w8.heap.size,0,none⟩) 1 1⟩)) (by simp [results,Tryz.results51,go_sem,tcl,tvs,tz,tzs,tf, *]) rfl (PT.good (n:=m + 1) (x:=((⟨9,[]⟩,[x.1]),l3)) e2.out ?_ ?_ ?_)
  ·refine FB.al ?_
   (iterate 3 (refine FB.set ?_ (by omega)))
   exact S8.out.fb
  ·have KY:KQ m (((w8.setCell ⟨w.heap.size + 1,0,none⟩ (.int .i64 9)).setCell ⟨w.heap.size + 1,1,none⟩ (.slice none 0 0)).setCell ⟨w.heap.size + 1,2,none⟩ (.slice (some ⟨w8.heap.size,0,none⟩) 1 1)) x.1 ⟨.slice a mm c,.slice a' m' c'⟩ w5.heap.size w8.heap.size:=by
    (iterate 3 (refine KQ.set ?_ (by omega)))
    exact K8.out.fin (Nat.le_refl _)
   have sY:(((w8.setCell ⟨w.heap.size + 1,0,none⟩ (.int .i64 9)).setCell ⟨w.heap.size + 1,1,none⟩ (.slice none 0 0)).setCell ⟨w.heap.size + 1,2,none⟩ (.slice (some ⟨w8.heap.size,0,none⟩) 1 1)).heap.size=w8.heap.size:=by simp
   generalize World.setCell _ _ _=Y at KY sY ⊢
   rw [←sY] at KY ⊢
   refine KQ.fin (s:=w5.heap.size) (e:=Y.heap.size + 1) ?_ (by omega)
   exact kq_one 9 KY
  ·refine TQ.al ?_
   (iterate 3 (refine TQ.set ?_ (by omega)))
   exact S8.out.tq
 by_cases n1:ownT t=[114,101,99,111,114,100]
 ·have hS':S=⟨#[114,101,99,111,114,100]⟩:=by rw [←hS,n1];rfl
  have OK:=hide (hok.out (by rw [n1];simp))
  rw [if_neg n0,if_pos n1] at hu
  have HU:=hide hu
  subst hS'
  clear hS hu n1 ho
  have FF:Hid (∀ W,Lq W B r→Calls Tryz.prog 97 #[lv B,.int .i64 10] W fun e w'=>PT (m + 1) B W (fdT M 10 r) e w'):=fun W q=>fields_any HM.out HG.out 10 q hl1.out
  unfold lv at FF
  go_wp2_with (go_at_call 97;refine Sto.out ?_)
  refine Sto.mk ((FF.out _ (S4.out.lq OK.out)).mono ?_)
  rcases h1:fdT M 10 r with p|x
  ·rintro e w5 ⟨hb5,rfl⟩
   have e2:Hid (R=.inl p):=by show _=_;rw [HU.out,h1]
   clear HU h1
   first|exact ⟨rfl,PT.bad e2.out (S4.out.fb.trans hb5)⟩|(go_wp2_with fail;exact ⟨rfl,PT.bad e2.out (S4.out.fb.trans hb5)⟩)
  rintro e w5 ⟨hb5,q,rfl,hk5,hq5⟩
  obtain ⟨a,mm,c,a',m',c',hqs⟩:=hk5.rd.shape
  subst hqs
  have K5:=hide hk5
  have hz4:=S4.out.fb.size
  have hz5:=hb5.size
  have hlt4:=S4.out.ex.lt
  have S5:=hide (S4.out.after hB4 hi3 hb5 hq5)
  clear hb5 hq5 hk5 kL
  have e2:Hid (R=.inr x):=by show _=_;rw [HU.out,h1]
  clear h1 HU
  have kz:=S5.out.ex.cells
  have kf:=S5.out.ex.frz
  have kl:=S5.out.ex.lt
  unfold tcl tvs
  dsimp only
  go_wp2_with fail
  refine bodyPost_ret (v:=.agg (tcl (thd (m + 1) x.1) ⟨.slice a mm c,.slice a' m' c'⟩)) (by simp [results,Tryz.results51,go_sem,tcl,tvs,tz,tzs,tf, *]) rfl (PT.good (x:=x) e2.out ?_ ?_ ?_)
  ·(iterate 3 (refine FB.set ?_ (by omega)))
   exact S5.out.fb
  ·refine KQ.fin (s:=w4.heap.size) (e:=w5.heap.size) ?_ (by omega)
   (iterate 3 (refine KQ.set ?_ (by omega)))
   exact K5.out
  ·(iterate 3 (refine TQ.set ?_ (by omega)))
   exact S5.out.tq
 by_cases n2:ownT t=[117,110,105,111,110]
 ·have hS':S=⟨#[117,110,105,111,110]⟩:=by rw [←hS,n2];rfl
  have OK:=hide (hok.out (by rw [n2];simp))
  rw [if_neg n0,if_neg n1,if_pos n2] at hu
  have HU:=hide hu
  subst hS'
  clear hS hu n2 ho
  have FF:Hid (∀ W,Lq W B r→Calls Tryz.prog 97 #[lv B,.int .i64 11] W fun e w'=>PT (m + 1) B W (fdT M 11 r) e w'):=fun W q=>fields_any HM.out HG.out 11 q hl1.out
  unfold lv at FF
  go_wp2_with (go_at_call 97;refine Sto.out ?_)
  refine Sto.mk ((FF.out _ (S4.out.lq OK.out)).mono ?_)
  rcases h1:fdT M 11 r with p|x
  ·rintro e w5 ⟨hb5,rfl⟩
   have e2:Hid (R=.inl p):=by show _=_;rw [HU.out,h1]
   clear HU h1
   first|exact ⟨rfl,PT.bad e2.out (S4.out.fb.trans hb5)⟩|(go_wp2_with fail;exact ⟨rfl,PT.bad e2.out (S4.out.fb.trans hb5)⟩)
  rintro e w5 ⟨hb5,q,rfl,hk5,hq5⟩
  obtain ⟨a,mm,c,a',m',c',hqs⟩:=hk5.rd.shape
  subst hqs
  have K5:=hide hk5
  have hz4:=S4.out.fb.size
  have hz5:=hb5.size
  have hlt4:=S4.out.ex.lt
  have S5:=hide (S4.out.after hB4 hi3 hb5 hq5)
  clear hb5 hq5 hk5 kL
  have e2:Hid (R=.inr x):=by show _=_;rw [HU.out,h1]
  clear h1 HU
  have kz:=S5.out.ex.cells
  have kf:=S5.out.ex.frz
  have kl:=S5.out.ex.lt
  unfold tcl tvs
  dsimp only
  go_wp2_with fail
  refine bodyPost_ret (v:=.agg (tcl (thd (m + 1) x.1) ⟨.slice a mm c,.slice a' m' c'⟩)) (by simp [results,Tryz.results51,go_sem,tcl,tvs,tz,tzs,tf, *]) rfl (PT.good (x:=x) e2.out ?_ ?_ ?_)
  ·(iterate 3 (refine FB.set ?_ (by omega)))
   exact S5.out.fb
  ·refine KQ.fin (s:=w4.heap.size) (e:=w5.heap.size) ?_ (by omega)
   (iterate 3 (refine KQ.set ?_ (by omega)))
   exact K5.out
  ·(iterate 3 (refine TQ.set ?_ (by omega)))
   exact S5.out.tq
 have b0:=tl_lit (m:=[108,105,115,116]) (fun q=>n0 (mkB_inj (hS.trans q)))
 have b1:=tl_lit (m:=[114,101,99,111,114,100]) (fun q=>n1 (mkB_inj (hS.trans q)))
 have b2:=tl_lit (m:=[117,110,105,111,110]) (fun q=>n2 (mkB_inj (hS.trans q)))
 rw [if_neg n0,if_neg n1,if_neg n2] at hu
 have HU:=hide hu
 have HS:=hide hS
 obtain ⟨_,tt,fr,hc⟩:=S4.out.gp
 clear hu hS n0 n1 n2 kL
 go_wp2_with (refine wpList_load_row rfl 112 _ rfl 2 rfl tt ptC fr _ hc Tryz.underlying112 rfl (by kernel_rfl) ?_)
 clear hc b0 b1 b2
 have hi3w:w3.heap.size=w3.heap.size:=rfl
 go_loopw [5,6,32] (fun _ _ i w'=>∃ j:Nat,j≤9∧i=.int .i64 j∧Hid ((∀ i:Nat,i<j→wdQ i≠[]→wdQ i≠ownT t)∧SQ w B r w3.heap.size t w')) (fun _ _ i _=>(9 - intOf i).toNat)
 case atStart=>exact ⟨0,by omega,rfl,(fun i h=>by omega),S4.out⟩
 case round =>
  clear S4
  obtain ⟨j,hj,rfl,HH⟩:=hrel
  have Hn:=hide HH.out.1
  have Hs:=hide HH.out.2
  obtain ⟨t0,t1,t2⟩:=Tb.cell2 Hs.out.tb
  clear HH
  by_cases hj8:j<9
  ·have hji:(j:Int)<9:=by omega
   have hix:=ix_pt j hj8
   by_cases hw:wdQ j=[]
   ·rw [hw] at hix
    have hixn:∀ w:World,(Instr.index 112 (.agg ptC) (.int .i64 j)).run Tryz.prog w=.ok (.string ⟨#[]⟩) w:=hix
    have HW:=hide hw
    clear hix hw
    go_wp2_with fail
    refine ⟨⟨j + 1,by omega,by go_num,?_,Hs.out⟩,by simp [intOf];omega⟩
    intro i hi h1 h2
    by_cases e:i=j
    ·subst e;exact h1 HW.out
    ·exact Hn.out i (by omega) h1 h2
   ·obtain ⟨U,hU⟩:∃ U,mkB (wdQ j)=U:=⟨_,rfl⟩
    rw [hU] at hix
    have hUn:=tl_nil (fun e:U=nilB=>hw (by have:=mkB_inj (hU.trans (show U=mkB [] from e));exact this))
    have hUe:U.toList.isEmpty=false:=by
     cases hq:U.toList with
     | nil=>exact absurd hq hUn
     | cons a l=>rfl
    have HW:=hide hw
    have HV:=hide hU
    clear hw hU
    by_cases he:U=S
    ·subst he
     have hop:Hid (R=.inr ((⟨(j:Nat),[]⟩,[]),r)):=by
      show _=_
      rw [HU.out,ptO_of hj8 HW.out (mkB_inj (HV.out.trans HS.out.symm))]
     go_wp2_with (go_at_call 95;refine Sto.out ?_)
     refine Sto.mk ((ho.out _).mono ?_)
     rintro e w5 ⟨rfl,hb5⟩
     have S5:=hide (Hs.out.below hB4 hi3 hb5)
     clear hb5 Hs
     have kz:=S5.out.ex.cells
     have kf:=S5.out.ex.frz
     have kl:=S5.out.ex.lt
     have z5:=S5.out.fb.size
     go_wp2_with fail
     refine bodyPost_ret (v:=.agg (tcl (⟨(j:Nat),[]⟩:Th) tzs)) (by simp [results,Tryz.results51,go_sem,tcl,tvs,tz,tzs,tf, *]) rfl (PT.good (n:=m + 1) (x:=((⟨(j:Nat),[]⟩,[]),r)) hop.out ?_ ?_ ?_)
     ·(iterate 3 (refine FB.set ?_ (by omega)))
      exact S5.out.fb
     ·exact kq_nil _ (by simp;omega)
     ·(iterate 3 (refine TQ.set ?_ (by omega)))
      exact S5.out.tq
    ·have hne:=tl_ne he
     have HE:=hide he
     clear he
     go_wp2_with (go_at_call 95;refine Sto.out ?_)
     refine Sto.mk ((ho.out _).mono ?_)
     rintro e w5 ⟨rfl,hb5⟩
     have S5:=hide (Hs.out.below hB4 hi3 hb5)
     clear hb5 Hs
     go_wp2_with fail
     refine ⟨⟨j + 1,by omega,by go_num,?_,S5.out⟩,by simp [intOf];omega⟩
     intro i hi h1 h2
     by_cases e:i=j
     ·subst e;exact HE.out (by rw [←HV.out,←HS.out,h2])
     ·exact Hn.out i (by omega) h1 h2
  ·have hji:¬ (j:Int)<9:=by omega
   have hR2:Hid (R=.inl t.p):=by
    show _=_
    rw [HU.out,ptO_no fun i hi=>Hn.out i (by omega)]
   go_wp2_with fail
   exact ⟨rfl,PT.bad hR2.out Hs.out.fb⟩
theorem typeOf_ok:∀ f,TpOk f 51 (tyf f) f
 | 0=>fun w B l h hl=>by
  obtain ⟨t,r,rfl⟩:=h.ok.cons
  simp at hl
 | f + 1=>fun w B l h hl=>type_step (typeOf_ok f) (tyf_nx f) h hl
end Lx
end Go.Proofs.YtcnfchblfcfimaaGreatDoor
namespace Go.Proofs.YtcnfchblfcfimaaGreatDoor
namespace Lx
open Go.RowKit
def ChkE (PF PS:(n:Nat)→ET n→Prop) (n:Nat) (x:ET n) (E:Int):Prop :=
 (E=140∧¬ (evA bareP n x∧evA PF n x))∨(E=2∧(evA bareP n x∧evA PF n x)∧¬ (evA PS n x∧edep n x≤16∧esiz n x≤512))∨(E=0∧(evA bareP n x∧evA PF n x)∧evA PS n x∧edep n x≤16∧esiz n x≤512)
theorem ChkE.of {PF PS:(n:Nat)→ET n→Prop} {n:Nat} {x:ET n} {E E':Int} (h:ChkE PF PS n x E) (h':ChkE PF PS n x E'):E=E':=by
 unfold ChkE at h h'
 by_cases a:evA bareP n x∧evA PF n x
 ·by_cases b:evA PS n x∧edep n x≤16∧esiz n x≤512
  ·simp only [a,b,not_true,and_false,false_or,and_true,and_self] at h h'
   omega
  ·simp only [a,b,not_true,and_false,false_or,and_true,and_self,not_false_eq_true,or_false] at h h'
   omega
 ·simp only [a,false_and,and_false,or_false,not_false_eq_true,and_true] at h h'
  omega
set_option maxHeartbeats 4000000 in
set_option maxRecDepth 100000 in
theorem lcheck_any {PF PS:(n:Nat)→ET n→Prop} {SF SS:(n:Nat)→ET n→World→Prop} (AF:Ask 38 PF SF) (AS:Ask 39 PS SS) (n:Nat) (x:ET n) (q:Sl) (w:World) (hr:RE n w x q) (hF:SF n x w) (hS:SS n x w) (hz:esiz n x≤200000) (E:Int) (hE:ChkE PF PS n x E) :
  Calls Tryz.prog 16 #[.agg (ecl (ehd n x) q)] w fun e w'=>e=.returned (.int .i64 E)∧Below w.heap.size w w':=by
 obtain ⟨x1,y1,z1,x2,y2,z2,x3,y3,z3,x4,y4,z4,hqs⟩:=hr.shape
 subst hqs
 obtain ⟨t1,ht1⟩:=tells (evA bareP n x)
 obtain ⟨t2,ht2⟩:=tells (evA PF n x)
 obtain ⟨t3,ht3⟩:=tells (evA PS n x)
 have h1:=hide (fun W (hb:Below w.heap.size w W)=>Calls.tb (every_any (Or.inl rfl) askBare n x ⟨.slice x1 y1 z1,.slice x2 y2 z2,.slice x3 y3 z3,.slice x4 y4 z4⟩ W (hr.below hb) trivial) ht1)
 have h2:=hide (fun W (hb:Below w.heap.size w W)=>Calls.tb (every_any (Or.inr (Or.inl rfl)) AF n x ⟨.slice x1 y1 z1,.slice x2 y2 z2,.slice x3 y3 z3,.slice x4 y4 z4⟩ W (hr.below hb) (AF.low _ _ _ _ hF hb)) ht2)
 have h3:=hide (fun W (hb:Below w.heap.size w W)=>Calls.tb (every_any (Or.inr (Or.inr rfl)) AS n x ⟨.slice x1 y1 z1,.slice x2 y2 z2,.slice x3 y3 z3,.slice x4 y4 z4⟩ W (hr.below hb) (AS.low _ _ _ _ hS hb)) ht3)
 have h4:=hide (fun W (hb:Below w.heap.size w W)=>edepth_any n x ⟨.slice x1 y1 z1,.slice x2 y2 z2,.slice x3 y3 z3,.slice x4 y4 z4⟩ W (hr.below hb) hz)
 have h5:=hide (fun W (hb:Below w.heap.size w W)=>esize_any n x ⟨.slice x1 y1 z1,.slice x2 y2 z2,.slice x3 y3 z3,.slice x4 y4 z4⟩ W (hr.below hb) hz)
 have hD:edep n x≤200000:=Nat.le_trans (edep_le n x) hz
 obtain ⟨D,hDD⟩:∃ D,edep n x=D:=⟨_,rfl⟩
 obtain ⟨Z,hZZ⟩:∃ Z,esiz n x=Z:=⟨_,rfl⟩
 rw [hDD] at h4 hD
 rw [hZZ] at h5 hz
 have fin:Hid (∀ E',ChkE PF PS n x E'→E'=E):=fun E' h=>h.of hE
 have HT1:=hide ht1
 have HT2:=hide ht2
 have HT3:=hide ht3
 have HD:=hide hDD
 have HZ:=hide hZZ
 clear hr AF AS hF hS hE ht1 ht2 ht3 hDD hZZ
 obtain ⟨h,hh⟩:∃ h,ehd n x=h:=⟨_,rfl⟩
 rw [hh] at h1 h2 h3 h4 h5 ⊢
 clear hh
 have X0:=hide (ex_new w h ⟨.slice x1 y1 z1,.slice x2 y2 z2,.slice x3 y3 z3,.slice x4 y4 z4⟩)
 unfold such at h1 h2 h3
 simp only [ecl] at h1 h2 h3 h4 h5 X0 ⊢
 go_enter Tryz.func16, Tryz.ntmps16
 go_wp2_with (go_at_call 36;refine Sto.out ?_)
 refine Sto.mk ?_
 refine (h1.out _ (below_al (Below.refl _ _))).mono ?_
 rintro e w1 ⟨rfl,hb1⟩
 have X1:=hide (X0.out.below hb1)
 have B1:=hide (below_then (below_al (Below.refl _ _)) hb1)
 have x0:=X1.out.cells
 clear hb1 X0
 cases t1
 ·have hn:=hide (fin.out 140 (Or.inl ⟨rfl,fun q=>by have:=HT1.out.2 q.1;cases this⟩))
  go_wp2_with fail
  go_ret
  exact ⟨by rw [←hn.out];rfl,B1.out⟩
 go_wp2_with (go_at_call 36;refine Sto.out ?_)
 refine Sto.mk ?_
 refine (h2.out _ B1.out).mono ?_
 rintro e w2 ⟨rfl,hb2⟩
 have X2:=hide (X1.out.below hb2)
 have B2:=hide (below_then B1.out hb2)
 clear x0 hb2 X1
 have x0:=X2.out.cells
 cases t2
 ·have hn:=hide (fin.out 140 (Or.inl ⟨rfl,fun q=>by have:=HT2.out.2 q.2;cases this⟩))
  go_wp2_with fail
  go_ret
  exact ⟨by rw [←hn.out];rfl,B2.out⟩
 have both:=hide (And.intro (HT1.out.1 (by simp)) (HT2.out.1 (by simp)))
 go_wp2_with (go_at_call 36;refine Sto.out ?_)
 refine Sto.mk ?_
 refine (h3.out _ B2.out).mono ?_
 rintro e w3 ⟨rfl,hb3⟩
 have X3:=hide (X2.out.below hb3)
 have B3:=hide (below_then B2.out hb3)
 clear x0 hb3 X2
 have x0:=X3.out.cells
 cases t3
 ·have hn:=hide (fin.out 2 (Or.inr (Or.inl ⟨rfl,both.out,fun q=>by have:=HT3.out.2 q.1;cases this⟩)))
  go_wp2_with fail
  go_ret
  exact ⟨by rw [←hn.out];rfl,B3.out⟩
 have hs:=hide (HT3.out.1 (by simp))
 go_wp2_with (go_at_call 40;refine Sto.out ?_)
 refine Sto.mk ?_
 refine (h4.out _ B3.out).mono ?_
 rintro e w4 ⟨rfl,hb4⟩
 have X4:=hide (X3.out.below hb4)
 have B4:=hide (below_then B3.out hb4)
 clear x0 hb4 X3
 have x0:=X4.out.cells
 by_cases d16:(16:Int)<(D:Int)
 ·have hn:=hide (fin.out 2 (Or.inr (Or.inl ⟨rfl,both.out,fun q=>by have:=q.2.1;rw [HD.out] at this;omega⟩)))
  go_wp2_with fail
  go_ret
  exact ⟨by rw [←hn.out];rfl,B4.out⟩
 go_wp2_with (go_at_call 41;refine Sto.out ?_)
 refine Sto.mk ?_
 refine (h5.out _ B4.out).mono ?_
 rintro e w5 ⟨rfl,hb5⟩
 have B5:=hide (below_then B4.out hb5)
 by_cases s512:(512:Int)<(Z:Int)
 ·have hn:=hide (fin.out 2 (Or.inr (Or.inl ⟨rfl,both.out,fun q=>by have:=q.2.2;rw [HZ.out] at this;omega⟩)))
  go_wp2_with fail
  go_ret
  exact ⟨by rw [←hn.out];rfl,B5.out⟩
 ·have hn:=hide (fin.out 0 (Or.inr (Or.inr ⟨rfl,both.out,hs.out,by rw [HD.out];omega,by rw [HZ.out];omega⟩)))
  go_wp2_with fail
  go_ret
  exact ⟨by rw [←hn.out];rfl,B5.out⟩
end Lx
end Go.Proofs.YtcnfchblfcfimaaGreatDoor
