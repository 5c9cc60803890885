/- Merged by program: VjRow, VlPlain, VmConst, VnClosed, VoRows. -/
import Derived.Test.YtgicnopppgnjjaaGreatDoorZd24
import Derived.Test.YtgicnopppgnjjaaGreatDoorZd17
set_option linter.unusedSimpArgs false
set_option linter.unusedVariables false
namespace Go.Proofs.YtgicnopppgnjjaaGreatDoor
namespace Lx
open Go.RowKit
theorem infoEE:(Tryz.prog.info? 33).map (fun i=>(i.zero,i.size,i.bytes))=some (some (.agg #[.int .i64 0,.string ⟨#[]⟩,.slice none 0 0,.slice none 0 0,.int .i64 0,.bool false,.bool false,.string ⟨#[]⟩,.int .i64 0,.int .u64 0,.string ⟨#[]⟩,.slice none 0 0,.slice none 0 0]),13,192):=by kernel_rfl
def KE (n:Nat) (W:World) (x:ET n) (q:Sl) (s e:Nat):Prop:=s≤e∧e≤W.heap.size∧∀ W':World,(∀ k,s≤k→k<e→W'.heap[k]?=W.heap[k]?)→RE n W' x q
theorem KE.move {n:Nat} {W W1:World} {x:ET n} {q:Sl} {s e:Nat} (h:KE n W x q s e) (hs:e≤W1.heap.size) (hb:∀ k,s≤k→k<e→W1.heap[k]?=W.heap[k]?):KE n W1 x q s e :=
 ⟨h.1,hs,fun W' h'=>h.2.2 W' fun k h1 h2=>(h' k h1 h2).trans (hb k h1 h2)⟩
theorem KE.rd {n:Nat} {W:World} {x:ET n} {q:Sl} {s e:Nat} (h:KE n W x q s e):RE n W x q:=h.2.2 W fun _ _ _=>rfl
theorem KE.up {n:Nat} {W:World} {x:ET n} {q:Sl} {s e:Nat} (h:KE n W x q s e):KE (n + 1) W (upE n x) q s e:=⟨h.1,h.2.1,fun W' h'=>(h.2.2 W' h').up⟩
theorem KE.wide {n:Nat} {W:World} {x:ET n} {q:Sl} {s e s' e':Nat} (h:KE n W x q s e) (h1:s'≤s) (h2:e≤e') (h3:e'≤W.heap.size):KE n W x q s' e':=⟨by have:=h.1;omega,h3,fun W' h'=>h.2.2 W' fun k a b=>h' k (by omega) (by omega)⟩
def ER (n L:Nat) (W:World) (v:Value) (l:List (ET n)):Prop:=∃ xs,W.ownsRow L 33 13 v l.length xs∧∀ j (h:j<l.length),∃ q s e,KE n W l[j] q s e∧L≤s∧(∀ g,v.ownBlock=some g→g<s∨e≤g)∧∀ r u,(ecl (ehd n l[j]) q).toList[r]?=some u→xs[j * 13 + r]?=some u
theorem ER.nil {n L:Nat} {W:World}:ER n L W (.slice none 0 0) []:=⟨[],World.ownsRow_nil _ _ _ _,fun j h=>by simp at h⟩
theorem ER.shape {n L:Nat} {W:World} {v:Value} {l:List (ET n)} (h:ER n L W v l):∃ a c,v=.slice a l.length c:=by
 obtain ⟨xs,h,_⟩:=h
 rcases h.2 with ⟨rfl,e⟩|⟨g,cap,cur,rfl,_⟩
 ·exact ⟨none,0,by rw [e]⟩
 ·exact ⟨_,_,rfl⟩
theorem ER.keep {n L:Nat} {W W1:World} {v:Value} {l:List (ET n)} (h:ER n L W v l) (hz:W.heap.size≤W1.heap.size) (hb:∀ k,L≤k→k<W.heap.size→W1.heap[k]?=W.heap[k]?):ER n L W1 v l:=by
 obtain ⟨xs,h1,h2⟩:=h
 have hlt:=World.ownsRow.lt h1
 refine ⟨xs,ownsRow_of h1 fun g hg hl=>hb g (hlt g hg).1 hl,fun j hj=>?_⟩
 obtain ⟨q,s,e,k1,k2,k3,k4⟩:=h2 j hj
 exact ⟨q,s,e,k1.move (by have:=k1.2.1;omega) (fun k a b=>hb k (by omega) (by have:=k1.2.1;omega)),k2,k3,k4⟩
theorem ER.push {n L:Nat} {W w2 w3 w4:World} {v v':Value} {l:List (ET n)} {x:ET n} {q:Sl} {xs:List Value} {s0:Nat} (hx:W.ownsRow L 33 13 v l.length xs)
  (hall:∀ j (h:j<l.length),∃ q s e,KE n W l[j] q s e∧L≤s∧(∀ g,v.ownBlock=some g→g<s∨e≤g)∧∀ r u,(ecl (ehd n l[j]) q).toList[r]?=some u→xs[j * 13 + r]?=some u)
  (hL:L≤W.heap.size) (hs0:W.heap.size≤s0) (hc:KE n w2 x q s0 w2.heap.size) (z2:w2.heap.size≤w3.heap.size) (hb:∀ k,L≤k→k<W.heap.size→w3.heap[k]?=W.heap[k]?) (hb3:∀ k,s0≤k→k<w2.heap.size→w3.heap[k]?=w2.heap[k]?) (hg:w3.grownBy w4 v.ownBlock)
  (ho:w4.ownsRow L 33 13 v' (l.length + 1) (xs++(ecl (ehd n x) q).toList)) (hat:v'.ownBlock=v.ownBlock∨v'.ownBlock=some w3.heap.size):ER n L w4 v' (l++[x]):=by
 have hrow:=hx.lt
 have z1:=hc.1
 have z4:=hg.size
 refine ⟨xs++(ecl (ehd n x) q).toList,by rw [List.length_append];exact ho,fun j hj=>?_⟩
 rw [List.length_append,List.length_singleton] at hj
 by_cases hjk:j<l.length
 ·obtain ⟨q',s,e,k1,k2,k3,k4⟩:=hall j hjk
  rw [List.getElem_append_left hjk]
  refine ⟨q',s,e,k1.move (by have:=k1.2.1;omega) ?_,k2,?_,?_⟩
  ·intro k q1 q2
   have:=k1.2.1
   rw [hg.block k (by omega) (fun e1=>by rcases k3 k e1.symm with h|h <;> omega),hb k (by omega) (by omega)]
  ·intro g hg'
   rcases hat with h|h
   ·exact k3 g (h ▸ hg')
   ·rw [h] at hg';cases hg';right;have:=k1.2.1;omega
  ·intro r u hr
   have:=k4 r u hr
   rw [List.getElem?_append_left ((List.getElem?_eq_some_iff.1 this).1)]
   exact this
 ·obtain rfl:j=l.length:=by omega
  rw [List.getElem_append_right (Nat.le_refl _)]
  simp only [Nat.sub_self,List.getElem_cons_zero]
  refine ⟨q,s0,w2.heap.size,hc.move (by omega) ?_,by omega,?_,?_⟩
  ·intro k q1 q2
   rw [hg.block k (by omega) (fun e1=>by have:=(hrow k e1.symm).2;omega),hb3 k (by omega) (by omega)]
  ·intro g hg'
   rcases hat with h|h
   ·left;have:=(hrow g (h ▸ hg')).2;omega
   ·rw [h] at hg';cases hg';right;omega
  ·intro r u hr
   have hl:xs.length=l.length * 13:=hx.1
   rw [List.getElem?_append_right (by omega),hl,Nat.add_sub_cancel_left]
   exact hr
theorem ER.el {n L:Nat} {W W':World} {v:Value} {l:List (ET n)} (h:ER n L W v l) (hb:∀ k,L≤k→k<W.heap.size→W'.heap[k]?=W.heap[k]?):EL n W' v l:=by
 obtain ⟨xs,hx,hall⟩:=h
 have hr:=World.ownsRow.lt hx
 have hx2:=hx
 obtain ⟨h0,h1⟩:=hx
 rcases h1 with ⟨rfl,e⟩|⟨g,cap,cur,rfl,k1,k2,k3,k4,k5,k6⟩
 ·exact Or.inl ⟨rfl,List.eq_nil_of_length_eq_zero e⟩
 ·have hg:=(hr g rfl).2
  have hsame:W'.heap[g]?=W.heap[g]?:=hb g (hr g rfl).1 hg
  refine Or.inr ⟨g,0,cap,none,rfl,k3,k4,fun _=>⟨rfl,?_⟩,fun i hi=>?_⟩
  ·by_cases hlt:g<W'.heap.size
   ·exact hlt
   ·rw [k2,Array.getElem?_eq_none (by omega)] at hsame;cases hsame
  ·obtain ⟨q',s,e,q1,q2,q3,q4⟩:=hall i hi
   refine ⟨q',?_,q1.2.2 W' fun k r1 r2=>hb k (by omega) (by have:=q1.2.1;omega)⟩
   intro r u hrv
   have hq:=q4 r u hrv
   have hlt:=(List.getElem?_eq_some_iff.1 hq).1
   rw [Nat.zero_add,World.cell?_of_block (a:=⟨g,i * 13 + r,none⟩) hsame,World.ownsRow.cellAt hx2 _ (by rw [h0] at hlt;exact hlt)]
   exact hq
section
variable {w : World} {ops : Array Oper} {rest : List Oper} {o : Oper} {a : Act} {Q : Exit → Act → World → Prop}
theorem app_e13 (hgd:o.guard=none) (s x:Operand) (ho:o.op=.call {callee:=.builtin .append,args:=#[s,x],argTypes:=#[24,24]})
  (B:Nat) (v:Value) (n:Nat) (xs:List Value) (hs:a.eval s=v) (hown:w.ownsRow B 33 13 v n xs) (g c:Nat) (hx:a.eval x=.slice (some ⟨g,0,none⟩) 1 c) (hd:Eh) (q:Sl) (h1:q.ns.oneCell'=true) (h2:q.ls.oneCell'=true) (h3:q.vs.oneCell'=true) (h4:q.vl.oneCell'=true)
  (hnews:w.rangeAt g 0 (ecl hd q).toList) (hm:n≤200000) (hB:B≤w.heap.size)
  (h:∀ av c' w',Hid (w'.ownsRow B 33 13 (.slice av (n + 1) c') (n + 1) (xs++(ecl hd q).toList))→Hid (w.grownBy w' v.ownBlock)→Hid ((Value.slice av (n + 1) c').ownBlock=v.ownBlock∨(Value.slice av (n + 1) c').ownBlock=some w.heap.size)→wpList Tryz.prog ops Q rest (a.put o.dst (.slice av (n + 1) c')) w'):wpList Tryz.prog ops Q (o :: rest) a w:=by
 obtain ⟨i0,hi,hz0,hz1,hz2⟩:=info_parts infoEE
 refine wpList_append_own_at w hgd s x 24 ho B 33 i0 _ 13 192 Tryz.underlying24 hi hz0 hz1 hz2 rfl (by decide) v n xs hs hown ⟨g,0,none⟩ 1 c (ecl hd q).toList hx rfl ?_ ?_ ?_ ?_ hB ?_
 ·intro j u hj
  have:=hnews j u hj
  rw [show (⟨g,0,none⟩:Addr).add j=⟨g,0 + j,none⟩ by unfold Addr.add;split <;> simp_all]
  exact this
 ·intro u hu
  simp only [ecl,List.mem_cons,List.not_mem_nil,or_false] at hu
  rcases hu with rfl|rfl|rfl|rfl|rfl|rfl|rfl|rfl|rfl|rfl|rfl|rfl|rfl
  all_goals first|rfl|exact h1|exact h2|exact h3|exact h4
 ·unfold maxLen;omega
 ·omega
 ·intro v' w' h1 h2 h3 h4
  rcases h1.2 with ⟨rfl,e⟩|⟨g',cap,cur,rfl,_⟩
  ·omega
  ·exact h _ _ w' h1 h2 h4
end
end Lx
end Go.Proofs.YtgicnopppgnjjaaGreatDoor
namespace Go.Proofs.YtgicnopppgnjjaaGreatDoor
namespace Lx
open Go.RowKit
def plC:Array Value:=#[.string ⟨#[]⟩,.string ⟨#[105,100]⟩,.string ⟨#[]⟩,.string ⟨#[]⟩,.string ⟨#[]⟩,.string ⟨#[]⟩,.string ⟨#[]⟩,.string ⟨#[]⟩,.string ⟨#[116,111,116,101,120,116]⟩,.string ⟨#[116,111,110,117,109]⟩,.string ⟨#[115,117,109]⟩,.string ⟨#[99,111,117,110,116]⟩]
def wdP (j:Nat):List UInt8:=if j=1 then [105,100] else if j=8 then [116,111,116,101,120,116] else if j=9 then [116,111,110,117,109] else if j=10 then [115,117,109] else if j=11 then [99,111,117,110,116] else []
def Gp (w:World):Prop:=∃ t fr,w.heap[3]?=some (.cells plC t fr)
theorem Gp.lt {w:World} (g:Gp w):3<w.heap.size:=by
 obtain ⟨t,fr,h⟩:=g
 exact (Array.getElem?_eq_some_iff.1 h).1
theorem Gp.below {w W:World} (g:Gp w) (h:Below w.heap.size w W):Gp W:=by
 obtain ⟨t,fr,hc⟩:=g
 exact ⟨t,fr,(h.block _ (Array.getElem?_eq_some_iff.1 hc).1).trans hc⟩
theorem Gp.fb {w W:World} {B:Nat} (g:Gp w) (h:FB B w W) (hB:15≤B):Gp W:=by
 obtain ⟨t,fr,hc⟩:=g
 exact ⟨t,fr,(h.blk _ (Array.getElem?_eq_some_iff.1 hc).1 (by omega)).trans hc⟩
theorem ix_pl (j:Nat) (hj:j<12) (w:World):(Instr.index 155 (.agg plC) (.int .i64 j)).run Tryz.prog w=.ok (.string (mkB (wdP j))) w:=by
 match j,hj with
 | 0,_=>exact (show (Instr.index 155 (.agg plC) (.int .i64 0)).run Tryz.prog w=.ok (.string ⟨#[]⟩) w by kernel_rfl)
 | 1,_=>exact (show (Instr.index 155 (.agg plC) (.int .i64 1)).run Tryz.prog w=.ok (.string ⟨#[105,100]⟩) w by kernel_rfl)
 | 2,_=>exact (show (Instr.index 155 (.agg plC) (.int .i64 2)).run Tryz.prog w=.ok (.string ⟨#[]⟩) w by kernel_rfl)
 | 3,_=>exact (show (Instr.index 155 (.agg plC) (.int .i64 3)).run Tryz.prog w=.ok (.string ⟨#[]⟩) w by kernel_rfl)
 | 4,_=>exact (show (Instr.index 155 (.agg plC) (.int .i64 4)).run Tryz.prog w=.ok (.string ⟨#[]⟩) w by kernel_rfl)
 | 5,_=>exact (show (Instr.index 155 (.agg plC) (.int .i64 5)).run Tryz.prog w=.ok (.string ⟨#[]⟩) w by kernel_rfl)
 | 6,_=>exact (show (Instr.index 155 (.agg plC) (.int .i64 6)).run Tryz.prog w=.ok (.string ⟨#[]⟩) w by kernel_rfl)
 | 7,_=>exact (show (Instr.index 155 (.agg plC) (.int .i64 7)).run Tryz.prog w=.ok (.string ⟨#[]⟩) w by kernel_rfl)
 | 8,_=>exact (show (Instr.index 155 (.agg plC) (.int .i64 8)).run Tryz.prog w=.ok (.string ⟨#[116,111,116,101,120,116]⟩) w by kernel_rfl)
 | 9,_=>exact (show (Instr.index 155 (.agg plC) (.int .i64 9)).run Tryz.prog w=.ok (.string ⟨#[116,111,110,117,109]⟩) w by kernel_rfl)
 | 10,_=>exact (show (Instr.index 155 (.agg plC) (.int .i64 10)).run Tryz.prog w=.ok (.string ⟨#[115,117,109]⟩) w by kernel_rfl)
 | 11,_=>exact (show (Instr.index 155 (.agg plC) (.int .i64 11)).run Tryz.prog w=.ok (.string ⟨#[99,111,117,110,116]⟩) w by kernel_rfl)
def zs:Sl:=⟨.slice none 0 0,.slice none 0 0,.slice none 0 0,.slice none 0 0⟩
structure Ex (W:World) (i:Nat) (h:Eh) (q:Sl):Prop where
 at_:W.heap[i]?=some (.cells (ecl h q) 33 (0,0))
theorem Ex.lt {W:World} {i:Nat} {h:Eh} {q:Sl} (k:Ex W i h q):i<W.heap.size:=(Array.getElem?_eq_some_iff.1 k.at_).1
theorem Ex.below {W W1:World} {i:Nat} {h:Eh} {q:Sl} (k:Ex W i h q) (hb:Below W.heap.size W W1):Ex W1 i h q:=⟨(hb.block _ k.lt).trans k.at_⟩
theorem Ex.fb {W W1:World} {i B:Nat} {h:Eh} {q:Sl} (k:Ex W i h q) (hb:FB B W W1) (hn:i≠B):Ex W1 i h q:=⟨(hb.blk _ k.lt hn).trans k.at_⟩
theorem Ex.cell {W:World} {i:Nat} {h:Eh} {q:Sl} (k:Ex W i h q) (j:Nat):W.cell? ⟨i,j,none⟩=(ecl h q)[j]?:=by
 unfold World.cell?
 rw [k.at_]
 rfl
theorem Ex.frz {W:World} {i:Nat} {h:Eh} {q:Sl} (k:Ex W i h q) (j:Nat):W.frozen? ⟨i,j,none⟩=false:=by
 have:=k.at_
 simp [World.frozen?,this]
theorem Ex.cells {W:World} {i:Nat} {h:Eh} {q:Sl} (k:Ex W i h q):W.cell? ⟨i,0,none⟩=some (.int .i64 h.op)∧W.cell? ⟨i,1,none⟩=some (.string h.name)∧W.cell? ⟨i,2,none⟩=some q.ns∧W.cell? ⟨i,3,none⟩=some q.ls∧W.cell? ⟨i,4,none⟩=some (.int .i64 (vhd h.vn h.val).kind)∧W.cell? ⟨i,5,none⟩=some (.bool (vhd h.vn h.val).flag)∧W.cell? ⟨i,6,none⟩=some (.bool (vhd h.vn h.val).neg)∧W.cell? ⟨i,7,none⟩=some (.string (vhd h.vn h.val).dig)∧W.cell? ⟨i,8,none⟩=some (.int .i64 (vhd h.vn h.val).exp)∧W.cell? ⟨i,9,none⟩=some (.int .u64 (vhd h.vn h.val).bits)∧W.cell? ⟨i,10,none⟩=some (.string (vhd h.vn h.val).text)∧W.cell? ⟨i,11,none⟩=some q.vs∧W.cell? ⟨i,12,none⟩=some q.vl :=
 ⟨k.cell 0,k.cell 1,k.cell 2,k.cell 3,k.cell 4,k.cell 5,k.cell 6,k.cell 7,k.cell 8,k.cell 9,k.cell 10,k.cell 11,k.cell 12⟩
theorem Ex.range {W:World} {i:Nat} {h:Eh} {q:Sl} (k:Ex W i h q):W.rangeAt i 0 (ecl h q).toList:=by
 intro j v hj
 rw [Nat.zero_add,k.cell j,←hj,Array.getElem?_toList]
def ze:Eh:=lf 0
theorem ze_new (w:World):Ex (w.alloc (.cells #[.int .i64 0,.string ⟨#[]⟩,.slice none 0 0,.slice none 0 0,.int .i64 0,.bool false,.bool false,.string ⟨#[]⟩,.int .i64 0,.int .u64 0,.string ⟨#[]⟩,.slice none 0 0,.slice none 0 0] 33)) w.heap.size ze zs:=⟨Array.getElem?_push_size⟩
theorem tl_nil {s:ByteArray} (h:¬ s=nilB):¬ s.toList=[]:=by
 intro e
 apply h
 refine ByteArray.ext (Array.toList_inj.1 ?_)
 rw [ByteArray.toList_eq] at e
 exact e
theorem plO_of {o:List UInt8} {j:Nat} (hj:j<12) (h:wdP j≠[]) (e:wdP j=o):plO o=some (j:Int):=by
 subst e
 match j,hj with
 | 0,_=>exact absurd rfl h
 | 1,_=>rfl
 | 2,_=>exact absurd rfl h
 | 3,_=>exact absurd rfl h
 | 4,_=>exact absurd rfl h
 | 5,_=>exact absurd rfl h
 | 6,_=>exact absurd rfl h
 | 7,_=>exact absurd rfl h
 | 8,_=>rfl
 | 9,_=>rfl
 | 10,_=>rfl
 | 11,_=>rfl
theorem plO_no {o:List UInt8} (h:∀ j,j<12→wdP j≠[]→wdP j≠o):plO o=none:=by
 have h1:=h 1 (by omega) (by decide)
 have h8:=h 8 (by omega) (by decide)
 have h9:=h 9 (by omega) (by decide)
 have h10:=h 10 (by omega) (by decide)
 have h11:=h 11 (by omega) (by decide)
 simp only [wdP] at h1 h8 h9 h10 h11
 unfold plO
 rw [if_neg (fun e=>h1 (by rw [e];rfl)),if_neg (fun e=>h8 (by rw [e];rfl)),if_neg (fun e=>h9 (by rw [e];rfl)),if_neg (fun e=>h10 (by rw [e];rfl)),if_neg (fun e=>h11 (by rw [e];rfl))]
def PlP (w:World) (o:Option Int) (p:Int) (e:Ending) (w':World):Prop:=Below w.heap.size w w'∧match o with
 | some op=>e=.returned (.agg (ecl (lf op) zs))
 | none=>e=.panicked (pw p)
theorem Tb.cell2 {W:World} {i:Nat} {t:Tk} (h:W.heap[i]?=some (.cells #[.int .i64 t.w,.string (mkB t.s),.int .i64 t.p] 110 (0,0))):W.cell? ⟨i,0,none⟩=some (.int .i64 t.w)∧W.cell? ⟨i,1,none⟩=some (.string (mkB t.s))∧W.cell? ⟨i,2,none⟩=some (.int .i64 t.p):=by
 refine ⟨?_,?_,?_⟩ <;> (unfold World.cell?;rw [h];rfl)
def Tb (W:World) (i:Nat) (t:Tk):Prop:=W.heap[i]?=some (.cells #[.int .i64 t.w,.string (mkB t.s),.int .i64 t.p] 110 (0,0))
theorem Tb.lt {W:World} {i:Nat} {t:Tk} (k:Tb W i t):i<W.heap.size:=(Array.getElem?_eq_some_iff.1 k).1
theorem Tb.below {W W1:World} {i:Nat} {t:Tk} (k:Tb W i t) (hb:Below W.heap.size W W1):Tb W1 i t:=(hb.block _ k.lt).trans k
theorem Tb.fb {W W1:World} {i B:Nat} {t:Tk} (k:Tb W i t) (hb:FB B W W1) (hn:i≠B):Tb W1 i t:=(hb.blk _ k.lt hn).trans k
theorem tb_new (w:World) (t:Tk):Tb (w.alloc (.cells #[.int .i64 t.w,.string (mkB t.s),.int .i64 t.p] 110)) w.heap.size t:=Array.getElem?_push_size
set_option maxHeartbeats 2000000 in
set_option maxRecDepth 100000 in
theorem plainStep_any (t:Tk) (w:World) (g:Gp w):Calls Tryz.prog 129 #[tkV t] w fun e w'=>PlP w (plO (ownT t)) t.p e w':=by
 have hg:=g.lt
 obtain ⟨tt,fr,hc⟩:=g
 have hc1:∀ o o',((w.alloc o).alloc o').heap[3]?=some (.cells plC tt fr):=fun o o'=>by rw [(below_al (below_al (Below.refl w.heap.size w))).block _ hg];exact hc
 have hb0:=hide ((tb_new w t).below (below_al (o:=.cells #[.int .i64 0,.string ⟨#[]⟩,.slice none 0 0,.slice none 0 0,.int .i64 0,.bool false,.bool false,.string ⟨#[]⟩,.int .i64 0,.int .u64 0,.string ⟨#[]⟩,.slice none 0 0,.slice none 0 0] 33) (Below.refl _ _)))
 have hz0:=hide (ze_new (w.alloc (.cells #[.int .i64 t.w,.string (mkB t.s),.int .i64 t.p] 110)))
 rw [World.size_alloc] at hz0
 have ho:=hide (own_any t)
 obtain ⟨R,hR⟩:∃ R,plO (ownT t)=R:=⟨_,rfl⟩
 rw [hR]
 have HR:=hide hR
 obtain ⟨S,hS⟩:∃ S,mkB (ownT t)=S:=⟨_,rfl⟩
 rw [hS] at ho
 have HS:=hide hS
 unfold tkV at ho ⊢
 clear hg hc hR hS
 go_enter Tryz.func129, Tryz.ntmps129
 go_wp2_with (refine wpList_load_row rfl 155 _ rfl 3 rfl tt plC fr _ (hc1 _ _) Tryz.underlying155 rfl (by kernel_rfl) ?_)
 clear hc1
 go_loopw [3,4,6] (fun _ _ i w'=>∃ j:Nat,j≤12∧i=.int .i64 j∧Hid ((∀ i:Nat,i<j→wdP i≠[]→wdP i≠ownT t)∧Below w.heap.size w w'∧Tb w' w.heap.size t∧Ex w' (w.heap.size + 1) ze zs)) (fun _ _ i _=>(12 - intOf i).toNat)
 case atStart=>exact ⟨0,by omega,rfl,(fun i h=>by omega),below_al (below_al (Below.refl _ _)),hb0.out,hz0.out⟩
 case round =>
  clear hz0 hb0
  obtain ⟨j,hj,rfl,H⟩:=hrel
  obtain ⟨hn,hb,ht,hx⟩:=H.out
  have Hn:=hide hn
  have Hb:=hide hb
  have Ht:=hide ht
  have Hx:=hide hx
  obtain ⟨t0,t1,t2⟩:=Tb.cell2 ht
  clear H hn hb ht hx
  by_cases hj8:j<12
  ·have hji:(j:Int)<12:=by omega
   have hix:=ix_pl j hj8
   by_cases hw:wdP j=[]
   ·rw [hw] at hix
    have hixn:∀ w:World,(Instr.index 155 (.agg plC) (.int .i64 j)).run Tryz.prog w=.ok (.string ⟨#[]⟩) w:=hix
    have HW:=hide hw
    clear hix hw
    go_wp2_with fail
    refine ⟨⟨j + 1,by omega,by go_num,?_,Hb.out,Ht.out,Hx.out⟩,by simp [intOf];omega⟩
    intro i hi h1 h2
    by_cases e:i=j
    ·subst e;exact h1 HW.out
    ·exact Hn.out i (by omega) h1 h2
   ·obtain ⟨U,hU⟩:∃ U,mkB (wdP j)=U:=⟨_,rfl⟩
    rw [hU] at hix
    have hUn:=tl_nil (fun e:U=nilB=>hw (by have:=mkB_inj (hU.trans (show U=mkB [] from e));exact this))
    have hUe:U.toList.isEmpty=false:=by
     cases hq:U.toList with
     | nil=>exact absurd hq hUn
     | cons a l=>rfl
    have HW:=hide hw
    have HU:=hide hU
    clear hw hU
    by_cases he:U=S
    ·subst he
     have hop:Hid (R=some (j:Int)):=by
      show _=_
      rw [←HR.out]
      exact plO_of hj8 HW.out (mkB_inj (HU.out.trans HS.out.symm))
     have fin:=hide (show ∀ w',Below w.heap.size w w'→PlP w R t.p (.returned (.agg (ecl (lf j) zs))) w' from fun w' h=>by rw [hop.out];exact ⟨h,rfl⟩)
     have hx0:=fun w1 (hb1:Below wr.heap.size wr w1)=>(Hx.out.below hb1).cells
     have hxf:=fun w1 (hb1:Below wr.heap.size wr w1)=>(Hx.out.below hb1).frz
     go_wp2_with (go_at_call 88;refine (ho.out _).mono ?_;rintro e w1 ⟨rfl,hb1⟩;have kf:=hxf _ hb1;obtain ⟨k0,k1,k2,k3,k4,k5,k6,k7,k8,k9,k10,k11,k12⟩:=hx0 _ hb1)
     refine bodyPost_ret (v:=.agg (ecl (lf j) zs)) (by simp [results,Tryz.results129,go_sem,ecl,lf,zs,vz,vH,vhd,nilB, *]) rfl (fin.out _ ?_)
     (iterate 13 (refine Below.setCell ?_ (by show w.heap.size≤w.heap.size + 1;omega) _))
     exact below_then Hb.out hb1
    ·have hne:=tl_ne he
     have HE:=hide he
     clear he
     go_wp2_with (go_at_call 88;refine (ho.out _).mono ?_;rintro e w1 ⟨rfl,hb1⟩)
     refine ⟨⟨j + 1,by omega,by go_num,?_,below_then Hb.out hb1,Ht.out.below hb1,Hx.out.below hb1⟩,by simp [intOf];omega⟩
     intro i hi h1 h2
     by_cases e:i=j
     ·subst e;exact HE.out (by rw [←HU.out,←HS.out,h2])
     ·exact Hn.out i (by omega) h1 h2
  ·have hji:¬ (j:Int)<12:=by omega
   have hR2:R=none:=by
    rw [←HR.out]
    exact plO_no fun i hi=>Hn.out i (by omega)
   have fin:=hide (show ∀ w',Below w.heap.size w w'→PlP w R t.p (.panicked (pw t.p)) w' from fun w' h=>by rw [hR2];exact ⟨h,rfl⟩)
   clear hR2
   go_wp2_with fail
   exact ⟨rfl,fin.out _ Hb.out⟩
end Lx
end Go.Proofs.YtgicnopppgnjjaaGreatDoor
namespace Go.Proofs.YtgicnopppgnjjaaGreatDoor
namespace Lx
open Go.RowKit
def vcl (v:VT 1):Array Value:=vals v.1 (.slice none 0 0) (.slice none 0 0)
def CnP (B:Nat) (w:World) (o:Sum Int (VT 1×List Tk)) (e:Ending) (w':World):Prop:=FB B w w'∧match o with
 | .inl p=>e=.panicked (pw p)
 | .inr x=>e=.returned (.agg (vcl x.1))∧TQ w' B x.2
def Vz (W:World) (i:Nat):Prop:=W.heap[i]?=some (.cells #[.int .i64 0,.bool false,.bool false,.string ⟨#[]⟩,.int .i64 0,.int .u64 0,.string ⟨#[]⟩,.slice none 0 0,.slice none 0 0] 31 (0,0))
theorem Vz.lt {W:World} {i:Nat} (k:Vz W i):i<W.heap.size:=(Array.getElem?_eq_some_iff.1 k).1
theorem Vz.below {W W1:World} {i:Nat} (k:Vz W i) (hb:Below W.heap.size W W1):Vz W1 i:=(hb.block _ k.lt).trans k
theorem Vz.fb {W W1:World} {i B:Nat} (k:Vz W i) (hb:FB B W W1) (hn:i≠B):Vz W1 i:=(hb.blk _ k.lt hn).trans k
theorem vz_new (w:World):Vz (w.alloc (.cells #[.int .i64 0,.bool false,.bool false,.string ⟨#[]⟩,.int .i64 0,.int .u64 0,.string ⟨#[]⟩,.slice none 0 0,.slice none 0 0] 31)) w.heap.size:=Array.getElem?_push_size
theorem Vz.cells {W:World} {i:Nat} (k:Vz W i):W.cell? ⟨i,0,none⟩=some (.int .i64 0)∧W.cell? ⟨i,1,none⟩=some (.bool false)∧W.cell? ⟨i,2,none⟩=some (.bool false)∧W.cell? ⟨i,3,none⟩=some (.string ⟨#[]⟩)∧W.cell? ⟨i,4,none⟩=some (.int .i64 0)∧W.cell? ⟨i,5,none⟩=some (.int .u64 0)∧W.cell? ⟨i,6,none⟩=some (.string ⟨#[]⟩)∧W.cell? ⟨i,7,none⟩=some (.slice none 0 0)∧W.cell? ⟨i,8,none⟩=some (.slice none 0 0):=by
 unfold Vz at k
 refine ⟨?_,?_,?_,?_,?_,?_,?_,?_,?_⟩ <;> (unfold World.cell?;rw [k];rfl)
theorem Vz.frz {W:World} {i:Nat} (k:Vz W i) (j:Nat):W.frozen? ⟨i,j,none⟩=false:=by
 unfold Vz at k
 simp [World.frozen?,k]
theorem tl_lit {S:ByteArray} {m:List UInt8} (h:¬ S=mkB m):(S.toList==m)=false:=by
 rw [beq_eq_false_iff_ne]
 intro e
 apply h
 rw [ByteArray.toList_eq] at e
 rw [←e]
 exact ByteArray.ext (by simp [mkB])
set_option maxHeartbeats 2000000 in
set_option maxRecDepth 100000 in
theorem const_any (hP:ParseOk) {w:World} {B:Nat} {t:Tk} {l:List Tk} (h:TQ w B (t :: l)) (hs:t.s.length≤70000):Calls Tryz.prog 128 #[lv B] w fun e w'=>CnP B w (cnT (t :: l)) e w':=by
 have H:=hide h
 have hB4:=h.sz
 clear h
 have hx:Hid (∀ w' (hb:Below w.heap.size w w') ,Calls Tryz.prog 124 #[.pointer (some ⟨B,0,none⟩)] w' fun e w''=>e=.returned (tkV t)∧TQ w'' B l∧FB B w' w''):=fun w' hb=>take_any (H.out.below hb)
 have hv0:=hide (vz_new (w.alloc (.cells #[.func (.func 123) #[] #[.pointer (some ⟨B,0,none⟩)],.func (.func 124) #[] #[.pointer (some ⟨B,0,none⟩)]] 104)))
 rw [World.size_alloc] at hv0
 have ho:=hide (own_any t)
 unfold tkV at hx ho
 unfold lv
 have hne:w.heap.size + 1≠B:=by omega
 have fin:Hid (∀ (v:VT 1) (w':World),TQ w' B l→FB B w w'→cnT (t :: l)=.inr (v,l)→CnP B w (cnT (t :: l)) (.returned (.agg (vcl v))) w'):=fun v w' a b e=>by
  rw [e];exact ⟨b,rfl,a⟩
 have bad:Hid (∀ (w':World),FB B w w'→cnT (t :: l)=.inl t.p→CnP B w (cnT (t :: l)) (.panicked (pw t.p)) w'):=fun w' b e=>by
  rw [e];exact ⟨b,rfl⟩
 obtain ⟨R,hR⟩:∃ R,cnT (t :: l)=R:=⟨_,rfl⟩
 have HR:=hide hR
 rw [hR] at fin bad ⊢
 clear hR
 by_cases h2:t.w=2
 ·have e2:Hid (R=.inr (vH 5 false false nilB 0 (mkB t.s),l)):=by show _=_;rw [←HR.out];simp [cnT,h2]
  rw [h2] at hx
  clear h2
  go_enter Tryz.func128, Tryz.ntmps128
  go_wp2_with (first|(go_at_call 124;refine (hx.out _ (below_al (below_al (Below.refl _ _)))).mono ?_;rintro e w3 ⟨rfl,hq3,hb3⟩;obtain ⟨k0,k1,k2,k3,k4,k5,k6,k7,k8⟩:=(hv0.out.fb hb3 hne).cells;have kf:=(hv0.out.fb hb3 hne).frz;have kl:=(hv0.out.fb hb3 hne).lt))
  refine bodyPost_ret (v:=.agg (vcl (vH 5 false false nilB 0 (mkB t.s)))) (by simp [results,Tryz.results128,go_sem,vcl,vals,vH,nilB, *]) rfl (fin.out _ _ ?_ ?_ e2.out)
  ·refine TQ.al ?_
   (iterate 9 (refine TQ.set ?_ (by omega)))
   exact hq3
  ·refine FB.al ?_
   (iterate 9 (refine FB.set ?_ (by omega)))
   exact ((FB.of (below_al (below_al (Below.refl _ _)))).trans hb3)
 ·have b2:(t.w==2)=false:=by simp [h2]
  by_cases h3:t.w=3
  ·have e2:Hid (R=.inr (vH 3 false (parseF t.s).1 (parseF t.s).2.1 (parseF t.s).2.2.1 nilB,l)):=by show _=_;rw [←HR.out];simp [cnT,h3]
   rw [h3] at hx
   have hp:=hide (fun w'=>hP (mkB t.s) w' (by rw [mkB_size];omega))
   rw [bl_mkB] at hp
   unfold retF at hp
   obtain ⟨⟨p1,p2,p3,p4⟩,hpf⟩:∃ q,parseF t.s=q:=⟨_,rfl⟩
   rw [hpf] at e2 hp
   clear h2 h3 b2 hpf
   go_enter Tryz.func128, Tryz.ntmps128
   go_wp2_with (first|(go_at_call 124;refine (hx.out _ (below_al (below_al (Below.refl _ _)))).mono ?_;rintro e w3 ⟨rfl,hq3,hb3⟩;obtain ⟨k0,k1,k2,k3,k4,k5,k6,k7,k8⟩:=(hv0.out.fb hb3 hne).cells;have kf:=(hv0.out.fb hb3 hne).frz;have kl:=(hv0.out.fb hb3 hne).lt)|(go_at_call 166;refine (hp.out _).mono ?_;rintro e w4 ⟨rfl,hb4⟩;obtain ⟨k0,k1,k2,k3,k4,k5,k6,k7,k8⟩:=(((hv0.out.fb hb3 hne).below (below_al (Below.refl _ _))).below hb4).cells;have kf:=(((hv0.out.fb hb3 hne).below (below_al (Below.refl _ _))).below hb4).frz;have kl:=(((hv0.out.fb hb3 hne).below (below_al (Below.refl _ _))).below hb4).lt))
   refine bodyPost_ret (v:=.agg (vcl (vH 3 false p1 p2 p3 nilB))) (by simp [results,Tryz.results128,go_sem,vcl,vals,vH,nilB, *]) rfl (fin.out _ _ ?_ ?_ e2.out)
   ·refine TQ.al ?_
    (iterate 9 (refine TQ.set ?_ (by omega)))
    exact (hq3.al.below hb4)
   ·refine FB.al ?_
    (iterate 9 (refine FB.set ?_ (by omega)))
    exact ((FB.of (below_al (below_al (Below.refl _ _)))).trans hb3).al.then hb4
  ·have b3:(t.w==3)=false:=by simp [h3]
   have hcn:cnT (t :: l)=if ownT t=[110,117,108,108] then .inr (vH 1 false false nilB 0 nilB,l)
  else if ownT t=[116,114,117,101] then .inr (vH 2 true false nilB 0 nilB,l)
  else if ownT t=[102,97,108,115,101] then .inr (vH 2 false false nilB 0 nilB,l)
  else .inl t.p:=by simp only [cnT];rw [if_neg h2,if_neg h3]
   rw [HR.out] at hcn
   have hsame:∀ s,ownT t=s→s≠[]→t.s=s:=by
    intro s e hn
    unfold ownT at e
    split at e
    ·exact e
    ·exact absurd e.symm hn
   clear HR h2 h3 hs hP
   by_cases n1:ownT t=[110,117,108,108]
   ·have e2:Hid (R=.inr (vH 1 false false nilB 0 nilB,l)):=by show _=_;rw [hcn,if_pos n1]
    rw [n1] at ho
    have ho1:Hid (∀ w,Calls Tryz.prog 88 #[.agg #[.int .i64 t.w,.string (mkB t.s),.int .i64 t.p]] w fun e w'=>e=.returned (.string ⟨#[110,117,108,108]⟩)∧Below w.heap.size w w'):=ho
    clear ho hcn n1 hsame
    go_enter Tryz.func128, Tryz.ntmps128
    go_wp2_with (first|(go_at_call 124;refine (hx.out _ (below_al (below_al (Below.refl _ _)))).mono ?_;rintro e w3 ⟨rfl,hq3,hb3⟩)|(go_at_call 88;refine (ho1.out _).mono ?_;rintro e w4 ⟨rfl,hb4⟩;obtain ⟨k0,k1,k2,k3,k4,k5,k6,k7,k8⟩:=(((hv0.out.fb hb3 hne).below (below_al (Below.refl _ _))).below hb4).cells;have kf:=(((hv0.out.fb hb3 hne).below (below_al (Below.refl _ _))).below hb4).frz;have kl:=(((hv0.out.fb hb3 hne).below (below_al (Below.refl _ _))).below hb4).lt;have kt:=Tb.cell2 ((tb_new w3 t).below hb4)))
    refine bodyPost_ret (v:=.agg (vcl (vH 1 false false nilB 0 nilB))) (by simp [results,Tryz.results128,go_sem,vcl,vals,vH,nilB, *]) rfl (fin.out _ _ ?_ ?_ e2.out)
    ·(iterate 9 (refine TQ.set ?_ (by omega)))
     exact (hq3.al.below hb4)
    ·(iterate 9 (refine FB.set ?_ (by omega)))
     exact ((FB.of (below_al (below_al (Below.refl _ _)))).trans hb3).al.then hb4
   ·rw [if_neg n1] at hcn
    by_cases n2:ownT t=[116,114,117,101]
    ·have e2:Hid (R=.inr (vH 2 true false nilB 0 nilB,l)):=by show _=_;rw [hcn,if_pos n2]
     have hts:=hsame _ n2 (by simp)
     rw [n2] at ho
     rw [hts] at ho hx
     have ho1:Hid (∀ w,Calls Tryz.prog 88 #[.agg #[.int .i64 t.w,.string ⟨#[116,114,117,101]⟩,.int .i64 t.p]] w fun e w'=>e=.returned (.string ⟨#[116,114,117,101]⟩)∧Below w.heap.size w w'):=ho
     have hx1:Hid (∀ w' (hb:Below w.heap.size w w') ,Calls Tryz.prog 124 #[.pointer (some ⟨B,0,none⟩)] w' fun e w''=>e=.returned (.agg #[.int .i64 t.w,.string ⟨#[116,114,117,101]⟩,.int .i64 t.p])∧TQ w'' B l∧FB B w' w''):=hx
     have ktt:Hid (∀ (w3 w4:World),Below (w3.heap.size + 1) (w3.alloc (.cells #[.int .i64 t.w,.string ⟨#[116,114,117,101]⟩,.int .i64 t.p] 110)) w4→w4.cell? ⟨w3.heap.size,1,none⟩=some (.string ⟨#[116,114,117,101]⟩)):=by
      intro w3 w4 hb
      have hb':Below (w3.alloc (.cells #[.int .i64 t.w,.string ⟨#[116,114,117,101]⟩,.int .i64 t.p] 110)).heap.size (w3.alloc (.cells #[.int .i64 t.w,.string ⟨#[116,114,117,101]⟩,.int .i64 t.p] 110)) w4:=by rw [World.size_alloc];exact hb
      exact (Tb.cell2 ((tb_new w3 ⟨t.w,[116,114,117,101],t.p⟩).below hb')).2.1
     clear ho hx hcn n1 n2 hsame
     go_enter Tryz.func128, Tryz.ntmps128
     go_wp2_with (first|(go_at_call 124;refine (hx1.out _ (below_al (below_al (Below.refl _ _)))).mono ?_;rintro e w3 ⟨rfl,hq3,hb3⟩)|(go_at_call 88;refine (ho1.out _).mono ?_;rintro e w4 ⟨rfl,hb4⟩;obtain ⟨k0,k1,k2,k3,k4,k5,k6,k7,k8⟩:=(((hv0.out.fb hb3 hne).below (below_al (Below.refl _ _))).below hb4).cells;have kf:=(((hv0.out.fb hb3 hne).below (below_al (Below.refl _ _))).below hb4).frz;have kl:=(((hv0.out.fb hb3 hne).below (below_al (Below.refl _ _))).below hb4).lt;have kt:=ktt.out _ _ (by rw [World.size_alloc] at hb4;exact hb4)))
     refine bodyPost_ret (v:=.agg (vcl (vH 2 true false nilB 0 nilB))) (by simp [results,Tryz.results128,go_sem,vcl,vals,vH,nilB, *]) rfl (fin.out _ _ ?_ ?_ e2.out)
     ·(iterate 9 (refine TQ.set ?_ (by omega)))
      exact (hq3.al.below hb4)
     ·(iterate 9 (refine FB.set ?_ (by omega)))
      exact ((FB.of (below_al (below_al (Below.refl _ _)))).trans hb3).al.then hb4
    ·rw [if_neg n2] at hcn
     by_cases n3:ownT t=[102,97,108,115,101]
     ·have e2:Hid (R=.inr (vH 2 false false nilB 0 nilB,l)):=by show _=_;rw [hcn,if_pos n3]
      have hts:=hsame _ n3 (by simp)
      rw [n3] at ho
      rw [hts] at ho hx
      have ho1:Hid (∀ w,Calls Tryz.prog 88 #[.agg #[.int .i64 t.w,.string ⟨#[102,97,108,115,101]⟩,.int .i64 t.p]] w fun e w'=>e=.returned (.string ⟨#[102,97,108,115,101]⟩)∧Below w.heap.size w w'):=ho
      have hx1:Hid (∀ w' (hb:Below w.heap.size w w') ,Calls Tryz.prog 124 #[.pointer (some ⟨B,0,none⟩)] w' fun e w''=>e=.returned (.agg #[.int .i64 t.w,.string ⟨#[102,97,108,115,101]⟩,.int .i64 t.p])∧TQ w'' B l∧FB B w' w''):=hx
      have ktt:Hid (∀ (w3 w4:World),Below (w3.heap.size + 1) (w3.alloc (.cells #[.int .i64 t.w,.string ⟨#[102,97,108,115,101]⟩,.int .i64 t.p] 110)) w4→w4.cell? ⟨w3.heap.size,1,none⟩=some (.string ⟨#[102,97,108,115,101]⟩)):=by
       intro w3 w4 hb
       have hb':Below (w3.alloc (.cells #[.int .i64 t.w,.string ⟨#[102,97,108,115,101]⟩,.int .i64 t.p] 110)).heap.size (w3.alloc (.cells #[.int .i64 t.w,.string ⟨#[102,97,108,115,101]⟩,.int .i64 t.p] 110)) w4:=by rw [World.size_alloc];exact hb
       exact (Tb.cell2 ((tb_new w3 ⟨t.w,[102,97,108,115,101],t.p⟩).below hb')).2.1
      clear ho hx hcn n1 n2 n3 hsame
      go_enter Tryz.func128, Tryz.ntmps128
      go_wp2_with (first|(go_at_call 124;refine (hx1.out _ (below_al (below_al (Below.refl _ _)))).mono ?_;rintro e w3 ⟨rfl,hq3,hb3⟩)|(go_at_call 88;refine (ho1.out _).mono ?_;rintro e w4 ⟨rfl,hb4⟩;obtain ⟨k0,k1,k2,k3,k4,k5,k6,k7,k8⟩:=(((hv0.out.fb hb3 hne).below (below_al (Below.refl _ _))).below hb4).cells;have kf:=(((hv0.out.fb hb3 hne).below (below_al (Below.refl _ _))).below hb4).frz;have kl:=(((hv0.out.fb hb3 hne).below (below_al (Below.refl _ _))).below hb4).lt;have kt:=ktt.out _ _ (by rw [World.size_alloc] at hb4;exact hb4)))
      refine bodyPost_ret (v:=.agg (vcl (vH 2 false false nilB 0 nilB))) (by simp [results,Tryz.results128,go_sem,vcl,vals,vH,nilB, *]) rfl (fin.out _ _ ?_ ?_ e2.out)
      ·(iterate 9 (refine TQ.set ?_ (by omega)))
       exact (hq3.al.below hb4)
      ·(iterate 9 (refine FB.set ?_ (by omega)))
       exact ((FB.of (below_al (below_al (Below.refl _ _)))).trans hb3).al.then hb4
     ·rw [if_neg n3] at hcn
      have e2:Hid (R=.inl t.p):=by show _=_;exact hcn
      obtain ⟨S,hS⟩:∃ S,mkB (ownT t)=S:=⟨_,rfl⟩
      rw [hS] at ho
      have m1:=tl_lit (m:=[110,117,108,108]) (fun h=>n1 (mkB_inj (hS.trans h)))
      have m2:=tl_lit (m:=[116,114,117,101]) (fun h=>n2 (mkB_inj (hS.trans h)))
      have m3:=tl_lit (m:=[102,97,108,115,101]) (fun h=>n3 (mkB_inj (hS.trans h)))
      clear hcn n1 n2 n3 hsame hS
      go_enter Tryz.func128, Tryz.ntmps128
      go_wp2_with (first|(go_at_call 124;refine (hx.out _ (below_al (below_al (Below.refl _ _)))).mono ?_;rintro e w3 ⟨rfl,hq3,hb3⟩)|(go_at_call 88;refine (ho.out _).mono ?_;rintro e w4 ⟨rfl,hb4⟩;obtain ⟨k0,k1,k2,k3,k4,k5,k6,k7,k8⟩:=(((hv0.out.fb hb3 hne).below (below_al (Below.refl _ _))).below hb4).cells;have kf:=(((hv0.out.fb hb3 hne).below (below_al (Below.refl _ _))).below hb4).frz;have kl:=(((hv0.out.fb hb3 hne).below (below_al (Below.refl _ _))).below hb4).lt;have kt:=Tb.cell2 ((tb_new w3 t).below hb4)))
      exact ⟨rfl,bad.out _ (((FB.of (below_al (below_al (Below.refl _ _)))).trans hb3).al.then hb4) e2.out⟩
end Lx
end Go.Proofs.YtgicnopppgnjjaaGreatDoor
namespace Go.Proofs.YtgicnopppgnjjaaGreatDoor
namespace Lx
open Go.RowKit
structure Lq (w:World) (B:Nat) (l:List Tk):Prop where
 tq:TQ w B l
 ok:Okl l
 gp:Gp w
 lo:15≤B
theorem Lq.below {w W:World} {B:Nat} {l:List Tk} (h:Lq w B l) (hb:Below w.heap.size w W):Lq W B l:=⟨h.tq.below hb,h.ok,h.gp.below hb,h.lo⟩
theorem Lq.al {w:World} {B:Nat} {l:List Tk} {o:Obj} (h:Lq w B l):Lq (w.alloc o) B l:=h.below (below_al (Below.refl _ _))
theorem Lq.fb {w W:World} {B:Nat} {l l':List Tk} (h:Lq w B l) (hb:FB B w W) (hq:TQ W B l') (hn:Okl l'):Lq W B l':=⟨hq,hn,h.gp.fb hb h.lo,h.lo⟩
def PE (n B:Nat) (w:World) (o:Sum Int (ET n×List Tk)) (e:Ending) (w':World):Prop:=FB B w w'∧match o with
 | .inl p=>e=.panicked (pw p)
 | .inr x=>∃ q,e=.returned (.agg (ecl (ehd n x.1) q))∧KE n w' x.1 q w.heap.size w'.heap.size∧TQ w' B x.2
def MpOk (n F:Nat) (M:List Tk→Sum Int (ET n×List Tk)) (f:Nat):Prop:=∀ (w:World) (B:Nat) (l:List Tk),Lq w B l→l.length≤f→Calls Tryz.prog F #[lv B] w fun e w'=>PE n B w (M l) e w'
theorem KE.fb {n B:Nat} {W W1:World} {x:ET n} {q:Sl} {s e:Nat} (h:KE n W x q s e) (hb:FB B W W1) (hB:B<s):KE n W1 x q s e:=h.move (by have:=h.2.1;have:=hb.size;omega) fun k a b=>hb.blk k (by have:=h.2.1;omega) (by omega)
theorem KE.below {n:Nat} {W W1:World} {x:ET n} {q:Sl} {s e:Nat} (h:KE n W x q s e) (hb:Below W.heap.size W W1):KE n W1 x q s e:=h.move (by have:=h.2.1;have:=hb.size;omega) fun k a b=>hb.block k (by have:=h.2.1;omega)
theorem KE.set {n i o:Nat} {W:World} {x:ET n} {q:Sl} {s e:Nat} {u:Value} (h:KE n W x q s e) (hi:i<s):KE n (W.setCell ⟨i,o,none⟩ u) x q s e:=h.move (by simp;exact h.2.1) fun k a b=>Below.heap_setCell _ _ _ _ (by show k≠i;omega)
theorem KE.al {n:Nat} {W:World} {x:ET n} {q:Sl} {s e:Nat} {o:Obj} (h:KE n W x q s e):KE n (W.alloc o) x q s e:=h.below (below_al (Below.refl _ _))
theorem KE.fin {n:Nat} {W:World} {x:ET n} {q:Sl} {s e s':Nat} (h:KE n W x q s e) (hs:s'≤s):KE n W x q s' W.heap.size:=h.wide hs h.2.1 (Nat.le_refl _)
theorem ex_new (w:World) (h:Eh) (q:Sl):Ex (w.alloc (.cells (ecl h q) 33)) w.heap.size h q:=⟨Array.getElem?_push_size⟩
theorem PE.bad {n B:Nat} {w w':World} {R:Sum Int (ET n×List Tk)} {p:Int} (e:R=.inl p) (hb:FB B w w'):PE n B w R (.panicked (pw p)) w':=by
 rw [e];exact ⟨hb,rfl⟩
theorem PE.good {n B:Nat} {w w':World} {R:Sum Int (ET n×List Tk)} {x:ET n×List Tk} {q:Sl} (e:R=.inr x) (hb:FB B w w') (hk:KE n w' x.1 q w.heap.size w'.heap.size) (ht:TQ w' B x.2):PE n B w R (.returned (.agg (ecl (ehd n x.1) q))) w':=by
 rw [e];exact ⟨hb,q,rfl,hk,ht⟩
set_option maxHeartbeats 2000000 in
set_option maxRecDepth 100000 in
theorem closed_any {n f:Nat} {M:List Tk→Sum Int (ET n×List Tk)} (hM:MpOk n 33 M f) (hG:Gd M) (k:List UInt8) {w:World} {B:Nat} {l:List Tk} (h:Lq w B l) (hl:l.length≤f):Calls Tryz.prog 125 #[lv B,.string (mkB k)] w fun e w'=>PE n B w (clT M k l) e w':=by
 have hB4:=h.tq.sz
 have H:=hide h
 have ZL:=hide (lb_new w B)
 have Z0:=hide (ze_new (w.alloc (.cells #[.func (.func 123) #[] #[.pointer (some ⟨B,0,none⟩)],.func (.func 124) #[] #[.pointer (some ⟨B,0,none⟩)]] 104)))
 have hm:Hid (∀ w',Below w.heap.size w w'→Calls Tryz.prog 33 #[lv B] w' fun e w''=>PE n B w' (M l) e w''):=fun w' hb=>hM w' B l (h.below hb) hl
 rw [World.size_alloc] at Z0
 obtain ⟨R,hR⟩:∃ R,clT M k l=R:=⟨_,rfl⟩
 rw [hR]
 have HR:=hide hR
 have hne:w.heap.size + 1≠B:=by omega
 have hne0:w.heap.size≠B:=by omega
 clear hR h hM
 unfold lv at hm ⊢
 rcases hx:M l with p|x
 ·rw [hx] at hm
  have e2:Hid (R=.inl p):=by show _=_;rw [←HR.out];simp [clT,hx]
  clear HR hx
  go_enter Tryz.func125, Tryz.ntmps125
  go_wp2_with (first|(go_at_call 33;refine (hm.out _ (below_al (below_al (Below.refl _ _)))).mono ?_;rintro e w3 ⟨hb3,rfl⟩))
  exact ⟨rfl,PE.bad e2.out ((FB.of (below_al (below_al (Below.refl _ _)))).trans hb3)⟩
 ·rw [hx] at hm
  have hnx:=hG l x H.out.ok hx
  obtain ⟨t,l2,hl2⟩:=hnx.1.cons
  have hw:Hid (∀ w',TQ w' B x.2→Calls Tryz.prog 89 #[lv B,.string (mkB k)] w' fun e w''=>WP B w' (wantL k x.2) e w''):=by
   intro w' hq
   rw [hl2] at hq ⊢
   exact want_any k hq
  unfold lv at hw
  have hd:Hid (∀ w',Ex w' w.heap.size (ehd n x.1) zs→True):=fun _ _=>trivial
  rcases hy:wantL k x.2 with p|l'
  ·rw [hy] at hw
   have e2:Hid (R=.inl p):=by show _=_;rw [←HR.out];simp [clT,hx,hy]
   clear HR hx hy hnx hl2 hd
   go_enter Tryz.func125, Tryz.ntmps125
   go_wp2_with (first|(go_at_call 33;refine (hm.out _ (below_al (below_al (Below.refl _ _)))).mono ?_;rintro e w3 ⟨hb3,q,rfl,hk3,hq3⟩;have kL:=(((ZL.out.below (below_al (Below.refl _ _))).fb hb3 hne0)).cells;have kl:=(((ZL.out.below (below_al (Below.refl _ _))).fb hb3 hne0)).lt;obtain ⟨a,m,c,a',m',c',a2,m2,c2,a3,m3,c3,hq⟩:=hk3.rd.shape;subst hq;unfold ecl)|(go_at_call 89;refine (hw.out _ hq3.al).mono ?_;rintro e w4 ⟨hb4,rfl⟩))
   exact ⟨rfl,PE.bad e2.out (((FB.of (below_al (below_al (Below.refl _ _)))).trans hb3).al.trans hb4)⟩
  ·rw [hy] at hw
   have e2:Hid (R=.inr (x.1,l')):=by show _=_;rw [←HR.out];simp [clT,hx,hy]
   clear HR hx hy hnx hl2 hd
   go_enter Tryz.func125, Tryz.ntmps125
   go_wp2_with (first|(go_at_call 33;refine (hm.out _ (below_al (below_al (Below.refl _ _)))).mono ?_;rintro e w3 ⟨hb3,q,rfl,hk3,hq3⟩;have kL:=(((ZL.out.below (below_al (Below.refl _ _))).fb hb3 hne0)).cells;have kl:=(((ZL.out.below (below_al (Below.refl _ _))).fb hb3 hne0)).lt;obtain ⟨a,m,c,a',m',c',a2,m2,c2,a3,m3,c3,hq⟩:=hk3.rd.shape;subst hq;unfold ecl)|(go_at_call 89;refine (hw.out _ hq3.al).mono ?_;rintro e w4 ⟨hb4,rfl,hq4⟩;have hn3:w3.heap.size≠B:=(by have:=hq3.sz;omega);have kx:=((ex_new w3 (ehd n x.1) ⟨.slice a m c,.slice a' m' c',.slice a2 m2 c2,.slice a3 m3 c3⟩).fb hb4 hn3).cells;have kz:=((((Z0.out.fb hb3 hne).below (below_al (Below.refl _ _))).fb hb4 hne)).cells;have kf:=((((Z0.out.fb hb3 hne).below (below_al (Below.refl _ _))).fb hb4 hne)).frz))
   refine bodyPost_ret (v:=.agg (ecl (ehd n x.1) ⟨.slice a m c,.slice a' m' c',.slice a2 m2 c2,.slice a3 m3 c3⟩)) (by simp [results,Tryz.results125,go_sem,ecl, *]) rfl (PE.good (x:=(x.1,l')) e2.out ?_ ?_ ?_)
   ·(iterate 13 (refine FB.set ?_ (by omega)))
    exact ((FB.of (below_al (below_al (Below.refl _ _)))).trans hb3).al.trans hb4
   ·refine KE.fin (s:=w.heap.size + 2) (e:=w3.heap.size) ?_ (by omega)
    (iterate 13 (refine KE.set ?_ (by omega)))
    refine KE.fb (KE.al ?_) hb4 (by omega)
    simpa using hk3
   ·(iterate 13 (refine TQ.set ?_ (by omega)))
    exact hq4
end Lx
end Go.Proofs.YtgicnopppgnjjaaGreatDoor
namespace Go.Proofs.YtgicnopppgnjjaaGreatDoor
namespace Lx
open Go.RowKit
structure E2 (n L:Nat) (W:World) (nv v:Value) (nms:List ByteArray) (l:List (ET n)) (xs:List Value):Prop where
 nrow:OwnS W L nv nms
 row:W.ownsRow L 33 13 v l.length xs
 all:∀ j (h:j<l.length),∃ q s e,KE n W l[j] q s e∧L≤s∧(∀ g,v.ownBlock=some g∨nv.ownBlock=some g→g<s∨e≤g)∧∀ r u,(ecl (ehd n l[j]) q).toList[r]?=some u→xs[j * 13 + r]?=some u
theorem E2.er {n L:Nat} {W:World} {nv v:Value} {nms:List ByteArray} {l:List (ET n)} {xs:List Value} (h:E2 n L W nv v nms l xs):ER n L W v l:=⟨xs,h.row,fun j hj=>by
 obtain ⟨q,s,e,a,b,c,d⟩:=h.all j hj
 exact ⟨q,s,e,a,b,fun g hg=>c g (Or.inl hg),d⟩⟩
theorem E2.nil (n L:Nat) (W:World):E2 n L W (.slice none 0 0) (.slice none 0 0) [] [] []:=⟨World.ownsRow_nil _ _ _ _,World.ownsRow_nil _ _ _ _,fun j h=>by simp at h⟩
theorem E2.keep {n L:Nat} {W W1:World} {nv v:Value} {nms:List ByteArray} {l:List (ET n)} {xs:List Value} (h:E2 n L W nv v nms l xs) (hz:W.heap.size≤W1.heap.size) (hb:∀ k,L≤k→k<W.heap.size→W1.heap[k]?=W.heap[k]?):E2 n L W1 nv v nms l xs:=by
 have hlt:=World.ownsRow.lt h.row
 have hlt2:=World.ownsRow.lt h.nrow
 refine ⟨ownsRow_of h.nrow fun g hg hl=>hb g (hlt2 g hg).1 hl,ownsRow_of h.row fun g hg hl=>hb g (hlt g hg).1 hl,fun j hj=>?_⟩
 obtain ⟨q,s,e,k1,k2,k3,k4⟩:=h.all j hj
 exact ⟨q,s,e,k1.move (by have:=k1.2.1;omega) (fun k a b=>hb k (by omega) (by have:=k1.2.1;omega)),k2,k3,k4⟩
theorem E2.fb {n L B:Nat} {W W1:World} {nv v:Value} {nms:List ByteArray} {l:List (ET n)} {xs:List Value} (h:E2 n L W nv v nms l xs) (hb:FB B W W1) (hB:B<L):E2 n L W1 nv v nms l xs:=h.keep hb.size fun k a b=>hb.blk k b (by omega)
theorem E2.below {n L:Nat} {W W1:World} {nv v:Value} {nms:List ByteArray} {l:List (ET n)} {xs:List Value} (h:E2 n L W nv v nms l xs) (hb:Below W.heap.size W W1):E2 n L W1 nv v nms l xs:=h.keep hb.size fun k a b=>hb.block k b
theorem E2.al {n L:Nat} {W:World} {nv v:Value} {nms:List ByteArray} {l:List (ET n)} {xs:List Value} {o:Obj} (h:E2 n L W nv v nms l xs):E2 n L (W.alloc o) nv v nms l xs:=h.below (below_al (Below.refl _ _))
theorem E2.lt {n L:Nat} {W:World} {nv v:Value} {nms:List ByteArray} {l:List (ET n)} {xs:List Value} (h:E2 n L W nv v nms l xs):∀ g,v.ownBlock=some g∨nv.ownBlock=some g→L≤g∧g<W.heap.size:=by
 intro g hg
 rcases hg with hg|hg
 ·exact World.ownsRow.lt h.row g hg
 ·exact World.ownsRow.lt h.nrow g hg
theorem E2.apart {n L:Nat} {W:World} {nv v:Value} {nms:List ByteArray} {l:List (ET n)} {xs:List Value} (h:E2 n L W nv v nms l xs):∀ g,v.ownBlock=some g→nv.ownBlock=some g→False:=by
 intro g h1 h2
 rcases h.row.2 with ⟨rfl,e⟩|⟨g1,cap,cur,rfl,_,k2,_⟩
 ·cases h1
 ·rcases h.nrow.2 with ⟨rfl,e⟩|⟨g2,cap,cur,rfl,_,k3,_⟩
  ·cases h2
  ·cases h1;cases h2
   rw [k2] at k3
   have:=Option.some.inj k3
   injection this with _ e _
   exact absurd e (by decide)
theorem E2.name {n L N:Nat} {W w':World} {nv nv' v:Value} {nms:List ByteArray} {l:List (ET n)} {xs:List Value} {st:ByteArray} (h:E2 n L W nv v nms l xs) (hN:nms.length=N) (hg:W.grownBy w' nv.ownBlock) (ho:w'.ownsRow L 9 1 nv' (N + 1) (scs nms++[.string st])) (hat:nv'.ownBlock=nv.ownBlock∨nv'.ownBlock=some W.heap.size):E2 n L w' nv' v (nms++[st]) l xs:=by
 have hz:=hg.size
 refine ⟨?_,?_,fun j hj=>?_⟩
 ·unfold OwnS
  rw [List.length_append,List.length_singleton,hN]
  simpa [scs] using ho
 ·exact ownsRow_of h.row fun g hg' hl=>hg.block g hl (fun e=>h.apart g hg' e.symm)
 ·obtain ⟨q,s,e,k1,k2,k3,k4⟩:=h.all j hj
  have:=k1.2.1
  refine ⟨q,s,e,k1.move (by omega) (fun k a b=>hg.block k (by omega) (fun e1=>by rcases k3 k (Or.inr e1.symm) with h|h <;> omega)),k2,?_,k4⟩
  intro g hg'
  rcases hg' with hg' | hg'
  ·exact k3 g (Or.inl hg')
  ·rcases hat with h1|h1
   ·exact k3 g (Or.inr (h1 ▸ hg'))
   ·rw [h1] at hg';cases hg';right;omega
theorem E2.push {n L N s0 e0:Nat} {W w':World} {nv v v':Value} {nms:List ByteArray} {l:List (ET n)} {xs:List Value} {x:ET n} {q:Sl} (h:E2 n L W nv v nms l xs) (hN:l.length=N) (hc:KE n W x q s0 e0) (hs0:L≤s0) (hap:∀ g,v.ownBlock=some g∨nv.ownBlock=some g→g<s0) (hg:W.grownBy w' v.ownBlock) (ho:w'.ownsRow L 33 13 v' (N + 1) (xs++(ecl (ehd n x) q).toList)) (hat:v'.ownBlock=v.ownBlock∨v'.ownBlock=some W.heap.size):E2 n L w' nv v' nms (l++[x]) (xs++(ecl (ehd n x) q).toList):=by
 have hz:=hg.size
 have hcz:=hc.2.1
 refine ⟨?_,?_,fun j hj=>?_⟩
 ·exact ownsRow_of h.nrow fun g hg' hl=>hg.block g hl (fun e=>h.apart g e.symm hg')
 ·rw [List.length_append,List.length_singleton,hN];exact ho
 ·rw [List.length_append,List.length_singleton] at hj
  by_cases hjk:j<l.length
  ·obtain ⟨q',s,e,k1,k2,k3,k4⟩:=h.all j hjk
   have:=k1.2.1
   rw [List.getElem_append_left hjk]
   refine ⟨q',s,e,k1.move (by omega) (fun k a b=>hg.block k (by omega) (fun e1=>by rcases k3 k (Or.inl e1.symm) with h|h <;> omega)),k2,?_,?_⟩
   ·intro g hg'
    rcases hg' with hg' | hg'
    ·rcases hat with h1|h1
     ·exact k3 g (Or.inl (h1 ▸ hg'))
     ·rw [h1] at hg';cases hg';right;omega
    ·exact k3 g (Or.inr hg')
   ·intro r u hr
    have:=k4 r u hr
    rw [List.getElem?_append_left ((List.getElem?_eq_some_iff.1 this).1)]
    exact this
  ·obtain rfl:j=l.length:=by omega
   rw [List.getElem_append_right (Nat.le_refl _)]
   simp only [Nat.sub_self,List.getElem_cons_zero]
   refine ⟨q,s0,e0,hc.move (by omega) (fun k a b=>hg.block k (by omega) (fun e1=>by have:=hap k (Or.inl e1.symm);omega)),hs0,?_,?_⟩
   ·intro g hg'
    rcases hg' with hg' | hg'
    ·rcases hat with h1|h1
     ·left;exact hap g (Or.inl (h1 ▸ hg'))
     ·rw [h1] at hg';cases hg';right;omega
    ·left;exact hap g (Or.inr hg')
   ·intro r u hr
    have hl:xs.length=l.length * 13:=h.row.1
    rw [List.getElem?_append_right (by omega),hl,Nat.add_sub_cancel_left]
    exact hr
theorem own_nl {W:World} {B:Nat} {v:Value} {l:List ByteArray} (ho:OwnS W B v l):NL W v l:=by
 have hr:=World.ownsRow.lt ho
 have ho2:=ho
 obtain ⟨h0,h1⟩:=ho
 rcases h1 with ⟨rfl,e⟩|⟨g,cap,cur,rfl,k1,k2,k3,k4,k5,k6⟩
 ·exact Or.inl ⟨rfl,List.eq_nil_of_length_eq_zero e⟩
 ·refine Or.inr ⟨g,0,cap,none,rfl,k3,k4,fun _=>⟨rfl,(hr g rfl).2⟩,fun i hi=>?_⟩
  rw [Nat.zero_add,World.ownsRow.cellAt ho2 i (by simpa using hi)]
  simp [scs,hi]
theorem E2.nl {n L:Nat} {W:World} {nv v:Value} {nms:List ByteArray} {l:List (ET n)} {xs:List Value} (h:E2 n L W nv v nms l xs):NL W nv nms:=own_nl h.nrow
theorem E2.notB {n L B:Nat} {W:World} {nv v:Value} {nms:List ByteArray} {l:List (ET n)} {xs:List Value} (h:E2 n L W nv v nms l xs) (hB:B<L):NotB B nv:=by
 intro b o sp m c e
 have:=(World.ownsRow.lt h.nrow b (by rw [e];rfl)).1
 omega
theorem E2.shape {n L:Nat} {W:World} {nv v:Value} {nms:List ByteArray} {l:List (ET n)} {xs:List Value} (h:E2 n L W nv v nms l xs):∃ a c a' c',nv=.slice a nms.length c∧v=.slice a' l.length c':=by
 obtain ⟨a,c,e,_⟩:=h.nl.len
 obtain ⟨a',c',e'⟩:=h.er.shape
 exact ⟨a,c,a',c',e,e'⟩
theorem app_1s {w:World} {ops:Array Oper} {rest:List Oper} {o:Oper} {a:Act} {Q:Exit→Act→World→Prop} (hgd:o.guard=none) (s x:Operand) (ho:o.op=.call {callee:=.builtin .append,args:=#[s,x],argTypes:=#[23,23]})
  (B:Nat) (v:Value) (n:Nat) (xs:List Value) (hs:a.eval s=v) (hown:w.ownsRow B 9 1 v n xs) (g c:Nat) (hx:a.eval x=.slice (some ⟨g,0,none⟩) 1 c) (t:ByteArray)
  (hnews:w.cell? ⟨g,0,none⟩=some (.string t)) (hm:n≤200000) (hB:B≤w.heap.size)
  (h:∀ av c' w',Hid (w'.ownsRow B 9 1 (.slice av (n + 1) c') (n + 1) (xs++[.string t]))→Hid (w.grownBy w' v.ownBlock)→Hid ((Value.slice av (n + 1) c').ownBlock=v.ownBlock∨(Value.slice av (n + 1) c').ownBlock=some w.heap.size)→wpList Tryz.prog ops Q rest (a.put o.dst (.slice av (n + 1) c')) w'):wpList Tryz.prog ops Q (o :: rest) a w:=by
 obtain ⟨i0,hi,hz0,hz1,hz2⟩:=info_parts info9
 refine wpList_append_own_at w hgd s x 23 ho B 9 i0 _ 1 16 Tryz.underlying23 hi hz0 hz1 hz2 rfl (by decide) v n xs hs hown ⟨g,0,none⟩ 1 c [.string t] hx rfl ?_ (by simp [Value.oneCell']) (by unfold maxLen;omega) (by omega) hB ?_
 ·intro j u hj
  have h0:j=0:=by have:=(List.getElem?_eq_some_iff.1 hj).1;simpa using this
  subst h0
  cases hj
  exact hnews
 ·intro v' w' h1 h2 h3 h4
  rcases h1.2 with ⟨rfl,e⟩|⟨g',cap,cur,rfl,_⟩
  ·omega
  ·exact h _ _ w' h1 h2 h4
def lenB (w:World) (B:Nat):Nat:=match w.cell? ⟨B,0,none⟩ with
 | some (.slice _ n _)=>n
 | _=>0
theorem TQ.lenB {w:World} {B:Nat} {l:List Tk} (h:TQ w B l):Lx.lenB w B=l.length:=by
 obtain ⟨a,c,h0,_⟩:=h
 have cB:w.cell? ⟨B,0,none⟩=some (.slice a l.length c):=by unfold World.cell?;rw [h0];rfl
 unfold Lx.lenB
 rw [cB]
end Lx
end Go.Proofs.YtgicnopppgnjjaaGreatDoor
