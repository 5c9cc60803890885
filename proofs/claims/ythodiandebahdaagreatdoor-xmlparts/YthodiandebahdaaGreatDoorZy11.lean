/- Merged by program: EbChk, EcChk, EdChk, EeTake. -/
import Derived.Test.YthodiandebahdaaGreatDoorZy10
namespace Go.Proofs.YthodiandebahdaaGreatDoor
open Go.RowKit
set_option linter.unusedSimpArgs false
set_option linter.unusedVariables false
set_option maxHeartbeats 8000000
structure Pt where
 kind:Int
 waits:Bool
 names:List ByteArray
 mb:Option Nat
def pcs (p:Pt):List Value:=[.int .i64 p.kind,.bool p.waits,.map p.mb]
def pxs (ps:List Pt):List Value:=ps.flatMap pcs
theorem pxs_length (ps:List Pt):(pxs ps).length=ps.length * 3:=by
 induction ps with
 | nil=>rfl
 | cons a l ih=>simp only [pxs,List.flatMap_cons,List.length_append,List.length_cons] at *;rw [ih];simp [pcs];omega
theorem pxs_app (a b:List Pt):pxs (a++b)=pxs a++pxs b:=by simp [pxs]
theorem pxs_one (p:Pt):pxs [p]=pcs p:=by simp [pxs]
theorem pxs_at (qs:List Pt) (p:Pt) (r:Nat):(pxs (qs++[p]))[qs.length * 3 + r]?=(pcs p)[r]?:=by
 rw [pxs_app,pxs_one,List.getElem?_append_right (by rw [pxs_length];omega),pxs_length,Nat.add_sub_cancel_left]
theorem pxs_set (qs:List Pt) (p:Pt) (r:Nat) (u:Value):(pxs (qs++[p])).set (qs.length * 3 + r) u=pxs qs++(pcs p).set r u:=by
 rw [pxs_app,pxs_one,List.set_append_right _ _ (by rw [pxs_length];omega),pxs_length,Nat.add_sub_cancel_left]
def Sm (l:List ByteArray):DataW Unit:=Sn l l.length
def PtOk (W:World) (B:Nat) (p:Pt):Prop:=(p.kind=8∧∃ b,p.mb=some b∧B≤b∧W.ownsMap Tryz.prog 9 (unitElem (H:=Unit)) b p.names.length (Sm p.names))∨(p.kind≠8∧p.mb=none∧p.names=[])
def KB (W:World) (i:Nat) (v:Value) (begun broken:Bool):Prop:=W.heap[i]?=some (.cells #[v,.bool begun,.bool broken] 101 (0,0))
structure Ck (W:World) (i B:Nat) (v:Value) (ps:List Pt) (begun broken:Bool):Prop where
 kb:KB W i v begun broken
 row:W.ownsRow B 123 3 v ps.length (pxs ps)
 ok:∀ p∈ps,PtOk W B p
 dis:(ps.filterMap Pt.mb).Nodup
 iB:i<B
 hB:B≤W.heap.size
 len:ps.length≤300000
section
variable {W W1 : World} {i B : Nat} {v : Value} {ps : List Pt} {begun broken : Bool}
theorem KB.cells (q:KB W i v begun broken):W.cell? ⟨i,0,none⟩=some v∧W.cell? ⟨i,1,none⟩=some (.bool begun)∧W.cell? ⟨i,2,none⟩=some (.bool broken)∧W.frozen? ⟨i,0,none⟩=false∧W.frozen? ⟨i,1,none⟩=false∧W.frozen? ⟨i,2,none⟩=false:=by
 unfold KB at q
 simp [World.cell?,World.frozen?,q]
theorem KB.lt (q:KB W i v begun broken):i<W.heap.size:=by
 by_cases h:i<W.heap.size
 ·exact h
 ·unfold KB at q
  rw [Array.getElem?_eq_none (by omega)] at q
  cases q
theorem KB.same (q:KB W i v begun broken) (h:W1.heap[i]?=W.heap[i]?):KB W1 i v begun broken:=by unfold KB;rw [h];exact q
theorem KB.set0 (q:KB W i v begun broken) (u:Value):KB (W.setCell ⟨i,0,none⟩ u) i u begun broken:=by
 unfold KB at q ⊢
 rw [setCell_eq_setRow W i 0 _ _ (0,0) _ q,setRow_heap W i _ _ _ (0,0) q]
 rfl
theorem KB.set1 (q:KB W i v begun broken) (u:Bool):KB (W.setCell ⟨i,1,none⟩ (.bool u)) i v u broken:=by
 unfold KB at q ⊢
 rw [setCell_eq_setRow W i 1 _ _ (0,0) _ q,setRow_heap W i _ _ _ (0,0) q]
 rfl
theorem KB.set2 (q:KB W i v begun broken) (u:Bool):KB (W.setCell ⟨i,2,none⟩ (.bool u)) i v begun u:=by
 unfold KB at q ⊢
 rw [setCell_eq_setRow W i 2 _ _ (0,0) _ q,setRow_heap W i _ _ _ (0,0) q]
 rfl
theorem own_of {B:Nat} {T:TypeId} {sz:Nat} {v:Value} {n:Nat} {xs:List Value} (h:W.ownsRow B T sz v n xs) (hb:∀ k,v.ownBlock=some k→k<W.heap.size→W1.heap[k]?=W.heap[k]?):W1.ownsRow B T sz v n xs:=by
 have hr:=World.ownsRow.lt h
 obtain ⟨h0,h⟩:=h
 refine ⟨h0,?_⟩
 rcases h with ⟨rfl,e⟩|⟨g,cap,cur,rfl,h2,h3,h4⟩
 ·exact Or.inl ⟨rfl,e⟩
 ·exact Or.inr ⟨g,cap,cur,rfl,h2,by rw [hb g rfl (hr g rfl).2];exact h3,h4⟩
theorem ownsMap_of {b n:Nat} {D:DataW Unit} (h:W.ownsMap Tryz.prog 9 (unitElem (H:=Unit)) b n D) (hb:W1.heap[b]?=W.heap[b]?):W1.ownsMap Tryz.prog 9 (unitElem (H:=Unit)) b n D:=by
 obtain ⟨es,clock,h1,h2⟩:=h
 exact ⟨es,clock,hb.trans h1,h2⟩
theorem ownsMap_lt {b n:Nat} {D:DataW Unit} (h:W.ownsMap Tryz.prog 9 (unitElem (H:=Unit)) b n D):b<W.heap.size:=World.ownsMap.lt h
theorem PtOk.of {p:Pt} (h:PtOk W B p) (hb:∀ b,p.mb=some b→W1.heap[b]?=W.heap[b]?):PtOk W1 B p:=by
 rcases h with ⟨k,b,e,h1,h2⟩|h
 ·exact Or.inl ⟨k,b,e,h1,ownsMap_of h2 (hb b e)⟩
 ·exact Or.inr h
theorem PtOk.blt {p:Pt} (h:PtOk W B p) (b:Nat) (e:p.mb=some b):B≤b∧b<W.heap.size:=by
 rcases h with ⟨_,b',e',h1,h2⟩|⟨_,e',_⟩
 ·rw [e] at e';cases e';exact ⟨h1,ownsMap_lt h2⟩
 ·rw [e] at e';cases e'
theorem PtOk.ne {p:Pt} (h:PtOk W B p) (b:Nat) (e:p.mb=some b) {n:Nat} {xs:List Value} (hr:W.ownsRow B 123 3 v n xs):v.ownBlock≠some b:=by
 intro hv
 rcases h with ⟨_,b',e',h1,es,clock,hm,_⟩|⟨_,e',_⟩
 ·rw [e] at e';cases e'
  rcases hr.2 with ⟨rfl,_⟩|⟨g,cap,cur,rfl,_,hg,_⟩
  ·cases hv
  ·cases hv
   rw [hg] at hm;cases hm
 ·rw [e] at e';cases e'
theorem Ck.then (h:Ck W i B v ps begun broken) (hb:Below W.heap.size W W1):Ck W1 i B v ps begun broken :=
 {h with kb:=h.kb.same (hb.block i h.kb.lt),row:=own_of h.row fun k _ hk=>hb.block k hk,ok:=fun p hp=>(h.ok p hp).of fun b e=>hb.block b ((h.ok p hp).blt b e).2,hB:=Nat.le_trans h.hB hb.size}
theorem Ck.new {w:World} {i B:Nat} {br:Bool} (h:KB w i (.slice none 0 0) false br) (h1:i<B) (h2:B≤w.heap.size):Ck w i B (.slice none 0 0) [] false br :=
 ⟨h,World.ownsRow_nil _ _ _ _,fun p hp=>by simp at hp,by simp,h1,h2,by simp⟩
end
def KC (W W':World):Prop:=∀ (q:Nat) (c:Array Value) (T:TypeId) (f:Nat×Nat),W.heap[q]?=some (.cells c T f)→T≠101→T≠123→W'.heap[q]?=some (.cells c T f)
def Ty (W:World) (k:Nat):Prop:=∀ (c:Array Value) (T:TypeId) (f:Nat×Nat),W.heap[k]?=some (.cells c T f)→T=101∨T=123
theorem KB.ty {W:World} {i:Nat} {v:Value} {b1 b2:Bool} (q:KB W i v b1 b2):Ty W i:=fun c T f h=>by
 unfold KB at q
 rw [q] at h
 cases h
 exact Or.inl rfl
theorem row_ty {W:World} {B g n cp:Nat} {xs:List Value} (h:W.ownsRow B 123 3 (.slice (some ⟨g,0,none⟩) n cp) n xs):Ty W g:=fun c T f hc=>by
 rcases h.2 with ⟨e,_⟩|⟨g',cap,cur,e,_,h2,_⟩
 ·cases e
 ·cases e
  rw [h2] at hc
  cases hc
  exact Or.inr rfl
theorem own_ty {W:World} {B n:Nat} {v:Value} {xs:List Value} (h:W.ownsRow B 123 3 v n xs) (g:Nat) (hg:v.ownBlock=some g):Ty W g:=fun c T f hc=>by
 rcases h.2 with ⟨rfl,_⟩|⟨g',cap,cur,rfl,_,h2,_⟩
 ·cases hg
 ·cases hg
  rw [h2] at hc
  cases hc
  exact Or.inr rfl
theorem map_ty {W:World} {b n:Nat} {D:DataW Unit} (h:W.ownsMap Tryz.prog 9 (unitElem (H:=Unit)) b n D):Ty W b:=fun c T f hc=>by
 obtain ⟨es,clock,h1,_⟩:=h
 rw [h1] at hc
 cases hc
theorem Ty.same {W W1:World} {k:Nat} (h:Ty W k) (e:W1.heap[k]?=W.heap[k]?):Ty W1 k:=fun c T f hc=>h c T f (e ▸ hc)
theorem Ty.set {W:World} {k:Nat} (h:Ty W k) (p:Addr) (u:Value):Ty (W.setCell p u) k:=fun c T f hc=>by
 by_cases e:k=p.block
 ·subst e
  simp only [World.setCell,Array.getElem?_modify,if_true] at hc
  cases hk:W.heap[p.block]? with
  | none=>rw [hk] at hc;cases hc
  | some o =>
   rw [hk] at hc
   cases o with
   | cells c' T' f'=>
    simp at hc
    obtain ⟨_,rfl,_⟩:=hc
    exact h c' T' f' hk
   | _=>simp at hc
 ·exact h c T f ((Below.heap_setCell W p u k e).symm.trans hc)
structure BK (i:Nat) (W W':World):Prop where
 below:Below i W W'
 kc:KC W W'
theorem KC.of {W W':World} (h:Below W.heap.size W W'):KC W W':=fun q c T f hq _ _=>(h.block q (Array.getElem?_eq_some_iff.1 hq).1).trans hq
theorem BK.refl (i:Nat) (W:World):BK i W W:=⟨Below.refl _ _,fun _ _ _ _ h _ _=>h⟩
theorem BK.trans {i:Nat} {A B C:World} (h:BK i A B) (k:BK i B C):BK i A C:=⟨h.below.trans k.below,fun q c T f e h1 h2=>k.kc q c T f (h.kc q c T f e h1 h2) h1 h2⟩
theorem BK.drew {i:Nat} {A B:World} (h:BK i A B):BK i A B.drew:=⟨h.below.drew,h.kc⟩
theorem BK.of {i:Nat} {W W':World} (h:Below W.heap.size W W') (hi:i≤W.heap.size):BK i W W':=⟨h.mono hi,KC.of h⟩
theorem BK.al {i:Nat} {A B:World} {o:Obj} (h:BK i A B) (hi:i≤B.heap.size):BK i A (B.alloc o):=h.trans (BK.of (below_al (Below.refl _ _)) hi)
theorem BK.set {i:Nat} {A B:World} (h:BK i A B) {p:Addr} (hp:i≤p.block) (ht:Ty B p.block) (u:Value):BK i A (B.setCell p u) :=
 ⟨h.below.setCell hp u,fun q c T f e h1 h2=>by
  have hq:=h.kc q c T f e h1 h2
  by_cases hk:q=p.block
  ·subst hk
   rcases ht c T f hq with r|r
   ·exact absurd r h1
   ·exact absurd r h2
  ·rw [Below.heap_setCell _ _ _ _ hk];exact hq⟩
theorem BK.grown {i:Nat} {A B C:World} {row:Option Nat} (h:BK i A B) (hg:B.grownBy C row) (hi:i≤B.heap.size) (hr:∀ k,row=some k→i≤k∧Ty B k):BK i A C :=
 ⟨h.below.grown hg hi (fun k e=>(hr k e).1),fun q c T f e h1 h2=>by
  have hq:=h.kc q c T f e h1 h2
  rw [hg.block q (Array.getElem?_eq_some_iff.1 hq).1 (fun er=>by
   rcases (hr q er.symm).2 c T f hq with r|r
   ·exact h1 r
   ·exact h2 r)]
  exact hq⟩
theorem BK.dn (i:Nat) (W:World) (m:Nat):BK i W (W.drewN m):=⟨⟨rfl,rfl,rfl,Nat.le_refl _,fun _ _=>rfl⟩,fun _ _ _ _ h _ _=>h⟩
theorem cnew_any (w:World):Calls Tryz.prog 34 #[] w fun r w'=>r=.returned (.pointer (some ⟨w.heap.size,0,none⟩))∧KB w' w.heap.size (.slice none 0 0) false false∧Below w.heap.size w w':=by
 go_enter Tryz.func34, Tryz.ntmps34
 go_wp2
 go_ret
 exact ⟨rfl,heap_alloc_new _ _,below_al (Below.refl _ _)⟩
section
variable {W : World} {i B : Nat} {v : Value} {ps : List Pt} {begun broken : Bool}
theorem Ck.shape (c:Ck W i B v ps begun broken):∃ a cp,v=.slice a ps.length cp:=by
 rcases c.row.2 with ⟨rfl,e⟩|⟨g,cap,cur,rfl,_⟩
 ·exact ⟨none,0,by rw [e]⟩
 ·exact ⟨_,_,rfl⟩
theorem cdone_any (c:Ck W i B v ps begun broken):Calls Tryz.prog 36 #[.pointer (some ⟨i,0,none⟩)] W fun r w'=>r=.returned (.bool (begun && decide (ps=[])))∧∃ m,w'=W.drewN m:=by
 obtain ⟨a,cp,rfl⟩:=c.shape
 obtain ⟨c0,c1,c2,f0,f1,f2⟩:=c.kb.cells
 have hn:Hid (decide (ps=[])=((ps.length:Int)==0)):=by
  show _=_
  cases ps <;> simp <;> omega
 clear c
 cases begun
 ·go_enter Tryz.func36, Tryz.ntmps36
  go_wp2
  go_ret
  exact ⟨rfl,0,rfl⟩
 ·go_enter Tryz.func36, Tryz.ntmps36
  go_wp2
  go_ret
  exact ⟨by rw [hn.out];rfl,0,rfl⟩
theorem inner_none (c:Ck W i B v [] begun broken):Calls Tryz.prog 118 #[.pointer (some ⟨i,0,none⟩)] W fun r w'=>r=.returned (.pointer none)∧w'=W:=by
 obtain ⟨a,cp,rfl⟩:=c.shape
 obtain ⟨c0,c1,c2,f0,f1,f2⟩:=c.kb.cells
 clear c
 go_enter Tryz.func118, Tryz.ntmps118
 go_wp2
 go_ret
 exact ⟨rfl,rfl⟩
theorem inner_some (g cp n:Nat) (c0:W.cell? ⟨i,0,none⟩=some (.slice (some ⟨g,0,none⟩) (n + 1) cp)) (h1:n + 1≤cp) (h2:cp≤maxLen):Calls Tryz.prog 118 #[.pointer (some ⟨i,0,none⟩)] W fun r w'=>r=.returned (.pointer (some ⟨g,n * 3,none⟩))∧∃ m,w'=W.drewN m:=by
 have ml:maxLen=9223372036854775807:=rfl
 have hw:IntKind.i64.wrap ((n:Int) + 1 - 1)=(n:Int):=by rw [IntKind.wrap_i64] <;> omega
 have hw2:IntKind.i64.wrap ((n:Int))=(n:Int):=by rw [IntKind.wrap_i64] <;> omega
 go_enter Tryz.func118, Tryz.ntmps118
 go_wp2
 go_quiet (fail)
 go_wp2
 go_ret
 exact ⟨by first|rfl|(simp;done)|trace_state,_,rfl⟩
theorem Ck.last {qs:List Pt} {p:Pt} (c:Ck W i B v (qs++[p]) begun broken):∃ g cp,v=.slice (some ⟨g,0,none⟩) (qs.length + 1) cp∧qs.length + 1≤cp∧cp≤maxLen∧B≤g∧W.cell? ⟨g,qs.length * 3,none⟩=some (.int .i64 p.kind)∧W.cell? ⟨g,qs.length * 3 + 1,none⟩=some (.bool p.waits)∧W.cell? ⟨g,qs.length * 3 + 2,none⟩=some (.map p.mb)∧∀ j,W.frozen? ⟨g,j,none⟩=false:=by
 have hr:=c.row
 rw [List.length_append,List.length_singleton] at hr
 rcases hr.2 with ⟨_,e⟩|⟨g,cap,cur,rfl,h1,h2,h3,h4,h5,h6⟩
 ·omega
 ·refine ⟨g,cap,rfl,h3,h4,h1,?_,?_,?_,fun j=>World.ownsRow.frozenAt hr j⟩
  ·rw [World.ownsRow.cellAt hr _ (by omega)];exact pxs_at qs p 0
  ·rw [World.ownsRow.cellAt hr _ (by omega)];exact pxs_at qs p 1
  ·rw [World.ownsRow.cellAt hr _ (by omega)];exact pxs_at qs p 2
theorem Ck.wait {qs:List Pt} {p:Pt} {g cp:Nat} (c:Ck W i B (.slice (some ⟨g,0,none⟩) (qs.length + 1) cp) (qs++[p]) begun broken) (b:Bool):Ck (W.setCell ⟨g,qs.length * 3 + 1,none⟩ (.bool b)) i B (.slice (some ⟨g,0,none⟩) (qs.length + 1) cp) (qs++[{p with waits:=b}]) begun broken:=by
 have hr:=c.row
 rw [List.length_append,List.length_singleton] at hr
 have hg:=(World.ownsRow.lt hr g rfl)
 have hs:=(World.ownsRow.stored hr (qs.length * 3 + 1) (.bool b)).1
 rw [pxs_set] at hs
 have hne:∀ k,k≠g→(W.setCell ⟨g,qs.length * 3 + 1,none⟩ (.bool b)).heap[k]?=W.heap[k]?:=fun k hk=>Below.heap_setCell _ _ _ _ hk
 refine ⟨c.kb.same (hne i (by have:=c.iB;omega)),?_,?_,?_,c.iB,by simpa using c.hB,by have:=c.len;simpa using this⟩
 ·rw [List.length_append,List.length_singleton,pxs_app,pxs_one]
  exact hs
 ·intro q hq
  rcases List.mem_append.1 hq with h|h
  ·exact (c.ok q (List.mem_append.2 (Or.inl h))).of fun b' e=>hne b' (fun e2=>(c.ok q (List.mem_append.2 (Or.inl h))).ne b' e c.row (by rw [e2];rfl))
  ·have hq2:q={p with waits:=b}:=by simpa using h
   subst hq2
   have hp:=c.ok p (by simp)
   have hp2:PtOk (W.setCell ⟨g,qs.length * 3 + 1,none⟩ (.bool b)) B p:=hp.of fun b' e=>hne b' (fun e2=>hp.ne b' e c.row (by rw [e2];rfl))
   exact hp2
 ·have:=c.dis
  rw [List.filterMap_append] at this ⊢
  exact this
theorem takeValue_some {qs:List Pt} {p:Pt} (c:Ck W i B v (qs++[p]) begun broken):Calls Tryz.prog 95 #[.pointer (some ⟨i,0,none⟩)] W fun r w'=>r=.returned (.bool (p.waits || decide (p.kind=7)))∧Ck w' i B v (qs++[{p with waits:=false}]) begun broken∧Below i W w'∧∀ k,k≠i→v.ownBlock≠some k→w'.heap[k]?=W.heap[k]?:=by
 have ml:maxLen=9223372036854775807:=rfl
 obtain ⟨g,cp,rfl,h1,h2,h3,k0,k1,k2,kf⟩:=c.last
 have inn:=hide (inner_some (W:=W) (i:=i) g cp qs.length c.kb.cells.1 h1 h2)
 have C:=hide (fun d=>(c.then (W1:=W.drewN d) ⟨rfl,rfl,rfl,Nat.le_refl _,fun _ _=>rfl⟩).wait false)
 have hz:=c.iB
 have hlt:=c.kb.lt
 have hkd:Hid (decide (p.kind=7)=(p.kind==7)):=by show _=_;rw [Bool.eq_iff_iff];simp
 clear c
 have hb:Hid (∀ d,Below i W ((W.drewN d).setCell ⟨g,qs.length * 3 + 1,none⟩ (.bool false))):=fun d=>(show Below i W (W.drewN d) from ⟨rfl,rfl,rfl,Nat.le_refl _,fun _ _=>rfl⟩).setCell (by show i≤g;omega) _
 have hfr:Hid (∀ d k,k≠i→(Value.slice (some ⟨g,0,none⟩) (qs.length + 1) cp).ownBlock≠some k→((W.drewN d).setCell ⟨g,qs.length * 3 + 1,none⟩ (.bool false)).heap[k]?=W.heap[k]?):=fun d k _ hk=>Below.heap_setCell _ _ _ _ (fun e=>hk (by rw [show k=g from e];rfl))
 cases hw:p.waits
 ·go_enter Tryz.func95, Tryz.ntmps95
  go_wp2_with (go_at_call 118;refine inn.out.mono ?_;rintro e w1 ⟨rfl,m1,rfl⟩)
  go_ret
  exact ⟨by rw [hkd.out];rfl,C.out _,hb.out _,hfr.out _⟩
 ·go_enter Tryz.func95, Tryz.ntmps95
  go_wp2_with (go_at_call 118;refine inn.out.mono ?_;rintro e w1 ⟨rfl,m1,rfl⟩)
  go_ret
  exact ⟨rfl,C.out _,hb.out _,hfr.out _⟩
theorem takeValue_none (c:Ck W i B v [] begun broken):Calls Tryz.prog 95 #[.pointer (some ⟨i,0,none⟩)] W fun r w'=>r=.returned (.bool (!begun))∧Ck w' i B v [] true broken∧Below i W w'∧∀ k,k≠i→w'.heap[k]?=W.heap[k]?:=by
 have inn:=hide (inner_none c)
 obtain ⟨c0,c1,c2,f0,f1,f2⟩:=c.kb.cells
 have C:Hid (Ck (W.setCell ⟨i,1,none⟩ (.bool true)) i B v [] true broken):={c with kb:=c.kb.set1 true,row:=own_of c.row fun k hk _=>Below.heap_setCell _ _ _ _ (by have:=(World.ownsRow.lt c.row k hk).1;have:=c.iB;show k≠i;omega),ok:=fun p hp=>by simp at hp,hB:=by simpa using c.hB}
 clear c
 go_enter Tryz.func95, Tryz.ntmps95
 go_wp2_with (go_at_call 118;refine inn.out.mono ?_;rintro e w1 ⟨rfl,hw1⟩;have hw1s:=hw1.symm;clear hw1;subst hw1s)
 go_ret
 exact ⟨rfl,C.out,(Below.refl i W).setCell (Nat.le_refl _) _,fun k hk=>Below.heap_setCell _ _ _ _ hk⟩
theorem takeEnd_none (c:Ck W i B v [] begun broken):Calls Tryz.prog 94 #[.pointer (some ⟨i,0,none⟩)] W fun r w'=>r=.returned (.bool false)∧w'=W:=by
 have inn:=hide (inner_none c)
 clear c
 go_enter Tryz.func94, Tryz.ntmps94
 go_wp2_with (go_at_call 118;refine inn.out.mono ?_;rintro e w1 ⟨rfl,hw1⟩;have hw1s:=hw1.symm;clear hw1;subst hw1s)
 go_ret
 exact ⟨rfl,rfl⟩
theorem takeEnd_wait {qs:List Pt} {p:Pt} (c:Ck W i B v (qs++[p]) begun broken) (hp:p.waits=true):Calls Tryz.prog 94 #[.pointer (some ⟨i,0,none⟩)] W fun r w'=>r=.returned (.bool false)∧∃ m,w'=W.drewN m:=by
 have ml:maxLen=9223372036854775807:=rfl
 obtain ⟨g,cp,rfl,h1,h2,h3,k0,k1,k2,kf⟩:=c.last
 have inn:=hide (inner_some (W:=W) (i:=i) g cp qs.length c.kb.cells.1 h1 h2)
 rw [hp] at k1
 clear c
 go_enter Tryz.func94, Tryz.ntmps94
 go_wp2_with (go_at_call 118;refine inn.out.mono ?_;rintro e w1 ⟨rfl,m1,rfl⟩)
 go_ret
 exact ⟨rfl,_,rfl⟩
theorem row_less {g cp n:Nat} {xs:List Value} {T:TypeId} (h:W.ownsRow B T 3 (.slice (some ⟨g,0,none⟩) (n + 1) cp) (n + 1) xs):W.ownsRow B T 3 (.slice (some ⟨g,0,none⟩) n cp) n (xs.take (n * 3)):=by
 obtain ⟨h0,h⟩:=h
 refine ⟨by rw [List.length_take];omega,?_⟩
 rcases h with ⟨e,_⟩|⟨g',cap,cur,e,h1,h2,h3,h4,h5,h6⟩
 ·cases e
 ·simp only [Value.slice.injEq,Option.some.injEq,Addr.mk.injEq] at e
  obtain ⟨⟨rfl,_,_⟩,_,rfl⟩:=e
  refine Or.inr ⟨g,cp,cur,rfl,h1,h2,by omega,h4,h5,?_⟩
  rw [←h6,List.take_take]
  congr 1;omega
theorem Ck.less {qs:List Pt} {p:Pt} {g cp:Nat} (c:Ck W i B (.slice (some ⟨g,0,none⟩) (qs.length + 1) cp) (qs++[p]) begun broken) :
  Ck ((((W.setCell ⟨g,qs.length * 3,none⟩ (.int .i64 0)).setCell ⟨g,qs.length * 3 + 1,none⟩ (.bool false)).setCell ⟨g,qs.length * 3 + 2,none⟩ (.map none)).setCell ⟨i,0,none⟩ (.slice (some ⟨g,0,none⟩) qs.length cp)) i B (.slice (some ⟨g,0,none⟩) qs.length cp) qs begun broken:=by
 have hr:=c.row
 rw [List.length_append,List.length_singleton] at hr
 have hg:=(World.ownsRow.lt hr g rfl)
 have hiB:=c.iB
 have s1:=(World.ownsRow.stored hr (qs.length * 3 + 0) (.int .i64 0)).1
 rw [pxs_set,show pxs qs++(pcs p).set 0 (.int .i64 0)=pxs (qs++[{p with kind:=0}]) by rw [pxs_app,pxs_one];rfl] at s1
 have s2:=(World.ownsRow.stored s1 (qs.length * 3 + 1) (.bool false)).1
 rw [pxs_set,show pxs qs++(pcs {p with kind:=0}).set 1 (.bool false)=pxs (qs++[{p with kind:=0,waits:=false}]) by rw [pxs_app,pxs_one];rfl] at s2
 have s3:=(World.ownsRow.stored s2 (qs.length * 3 + 2) (.map none)).1
 rw [pxs_set] at s3
 have s4:=row_less s3
 rw [List.take_append_of_le_length (by rw [pxs_length];exact Nat.le_refl _),List.take_of_length_le (by rw [pxs_length];exact Nat.le_refl _)] at s4
 have hne:∀ k,k≠g→k≠i→((((W.setCell ⟨g,qs.length * 3,none⟩ (.int .i64 0)).setCell ⟨g,qs.length * 3 + 1,none⟩ (.bool false)).setCell ⟨g,qs.length * 3 + 2,none⟩ (.map none)).setCell ⟨i,0,none⟩ (.slice (some ⟨g,0,none⟩) qs.length cp)).heap[k]?=W.heap[k]?:=fun k h1 h2=>by
  rw [Below.heap_setCell _ _ _ _ (show k≠i from h2),Below.heap_setCell _ _ _ _ (show k≠g from h1),Below.heap_setCell _ _ _ _ (show k≠g from h1),Below.heap_setCell _ _ _ _ (show k≠g from h1)]
 have kb:KB (((W.setCell ⟨g,qs.length * 3,none⟩ (.int .i64 0)).setCell ⟨g,qs.length * 3 + 1,none⟩ (.bool false)).setCell ⟨g,qs.length * 3 + 2,none⟩ (.map none)) i (.slice (some ⟨g,0,none⟩) (qs.length + 1) cp) begun broken:=c.kb.same (by rw [Below.heap_setCell _ _ _ _ (show i≠g by omega),Below.heap_setCell _ _ _ _ (show i≠g by omega),Below.heap_setCell _ _ _ _ (show i≠g by omega)])
 refine ⟨kb.set0 _,own_of s4 fun k hk _=>Below.heap_setCell _ _ _ _ (by cases hk;show g≠i;omega),?_,?_,hiB,by simpa using c.hB,by have:=c.len;simp at this;omega⟩
 ·intro q hq
  have hq2:=c.ok q (List.mem_append.2 (Or.inl hq))
  exact hq2.of fun b' e=>hne b' (fun e2=>hq2.ne b' e c.row (by rw [e2];rfl)) (by have:=(hq2.blt b' e).1;omega)
 ·have:=c.dis
  rw [List.filterMap_append] at this
  exact (List.nodup_append.1 this).1
theorem takeEnd_some {qs:List Pt} {p:Pt} (c:Ck W i B v (qs++[p]) begun broken) (hp:p.waits=false):Calls Tryz.prog 94 #[.pointer (some ⟨i,0,none⟩)] W fun r w'=>r=.returned (.bool true)∧∃ v',Ck w' i B v' qs begun broken∧BK i W w':=by
 have ml:maxLen=9223372036854775807:=rfl
 obtain ⟨g,cp,rfl,h1,h2,h3,k0,k1,k2,kf⟩:=c.last
 have inn:=hide (inner_some (W:=W) (i:=i) g cp qs.length c.kb.cells.1 h1 h2)
 rw [hp] at k1
 obtain ⟨c0,c1,c2,f0,f1,f2⟩:=c.kb.cells
 have C:=hide c
 have hz:=c.iB
 have hw:IntKind.i64.wrap ((qs.length:Int) + 1 - 1)=(qs.length:Int):=by rw [IntKind.wrap_i64] <;> omega
 clear c
 go_enter Tryz.func94, Tryz.ntmps94
 go_wp2_with (go_at_call 118;refine inn.out.mono ?_;rintro e w1 ⟨rfl,m1,rfl⟩)
 have hgi:g≠i:=by omega
 have hgi2:i≠g:=by omega
 have hw2:IntKind.i64.wrap (qs.length:Int)=(qs.length:Int):=by rw [IntKind.wrap_i64] <;> omega
 have hle:qs.length≤cp:=by omega
 go_region_with (fail)
 all_goals
  go_wp2
  go_ret
  refine ⟨rfl,_,(C.out.then (W1:=W.drewN m1) ⟨rfl,rfl,rfl,Nat.le_refl _,fun _ _=>rfl⟩).less.then (Below.refl _ _).drew,?_⟩
  have t0:Ty (W.drewN m1) g:=row_ty (by have:=C.out.row;rwa [List.length_append,List.length_singleton] at this)
  have t1:Ty (W.drewN m1) i:=C.out.kb.ty
  exact ((((((BK.dn i W m1).set (p:=⟨g,qs.length * 3,none⟩) (show i≤g by omega) t0 _).set (p:=⟨g,qs.length * 3 + 1,none⟩) (show i≤g by omega) (t0.set _ _) _).set (p:=⟨g,qs.length * 3 + 2,none⟩) (show i≤g by omega) ((t0.set _ _).set _ _) _).set (p:=⟨i,0,none⟩) (Nat.le_refl i) (((t1.set _ _).set _ _).set _ _) _)).drew
end
theorem Sm_app (l:List ByteArray) (s:ByteArray):Sm (l++[s])=(Sm l).put (.string s.data.toList) (.agg []):=by
 unfold Sm
 rw [List.length_append,List.length_singleton,Sn_succ _ _ (by simp)]
 congr 1
 ·unfold Sn
  rw [List.take_append_of_le_length (Nat.le_refl _)]
 ·simp
theorem has_Sm (l:List ByteArray) (s:ByteArray):Maps.has (Sm l) (.string s.data.toList)=true↔s∈l:=by
 unfold Sm
 rw [has_Sn,List.take_length]
section
variable {W : World} {i B : Nat} {v : Value} {ps : List Pt} {begun broken : Bool}
theorem takeName_none (s:ByteArray) (c:Ck W i B v [] begun broken):Calls Tryz.prog 93 #[.pointer (some ⟨i,0,none⟩),.string s] W fun r w'=>r=.returned (.bool false)∧∃ m,w'=W.drewN m:=by
 have inn:=hide (inner_none c)
 clear c
 go_enter Tryz.func93, Tryz.ntmps93
 go_wp2_with (go_at_call 118;refine inn.out.mono ?_;rintro e w1 ⟨rfl,hw1⟩;have hw1s:=hw1.symm;clear hw1;subst hw1s)
 go_ret
 exact ⟨rfl,0,rfl⟩
theorem takeName_no (s:ByteArray) {qs:List Pt} {p:Pt} (c:Ck W i B v (qs++[p]) begun broken) (hp:p.kind≠8∨p.waits=true):Calls Tryz.prog 93 #[.pointer (some ⟨i,0,none⟩),.string s] W fun r w'=>r=.returned (.bool false)∧∃ m,w'=W.drewN m:=by
 have ml:maxLen=9223372036854775807:=rfl
 obtain ⟨g,cp,rfl,h1,h2,h3,k0,k1,k2,kf⟩:=c.last
 have inn:=hide (inner_some (W:=W) (i:=i) g cp qs.length c.kb.cells.1 h1 h2)
 clear c
 by_cases h8:p.kind=8
 ·have hw:p.waits=true:=by rcases hp with h|h;exact absurd h8 h;exact h
  rw [hw] at k1
  rw [h8] at k0
  go_enter Tryz.func93, Tryz.ntmps93
  go_wp2_with (go_at_call 118;refine inn.out.mono ?_;rintro e w1 ⟨rfl,m1,rfl⟩)
  go_ret
  exact ⟨rfl,_,rfl⟩
 ·obtain ⟨kd,hkd⟩:∃ kd,p.kind=kd:=⟨_,rfl⟩
  rw [hkd] at k0 h8
  clear hp hkd
  go_enter Tryz.func93, Tryz.ntmps93
  go_wp2_with (go_at_call 118;refine inn.out.mono ?_;rintro e w1 ⟨rfl,m1,rfl⟩)
  go_ret
  exact ⟨rfl,_,rfl⟩
theorem takeName_twice (s:ByteArray) {qs:List Pt} {p:Pt} (c:Ck W i B v (qs++[p]) begun broken) (h8:p.kind=8) (hw:p.waits=false) (hm:s∈p.names) (hs:s.size≤281474976710656):Calls Tryz.prog 93 #[.pointer (some ⟨i,0,none⟩),.string s] W fun r w'=>r=.returned (.bool false)∧Below W.heap.size W w':=by
 have ml:maxLen=9223372036854775807:=rfl
 obtain ⟨g,cp,rfl,h1,h2,h3,k0,k1,k2,kf⟩:=c.last
 have inn:=hide (inner_some (W:=W) (i:=i) g cp qs.length c.kb.cells.1 h1 h2)
 rw [hw] at k1
 rw [h8] at k0
 obtain ⟨b,hb,hbB,hown⟩:∃ b,p.mb=some b∧B≤b∧W.ownsMap Tryz.prog 9 (unitElem (H:=Unit)) b p.names.length (Sm p.names):=by
  rcases c.ok p (by simp) with ⟨_,h⟩|⟨h,_⟩
  ·exact h
  ·exact absurd h8 h
 rw [hb] at k2
 have hhas:Maps.has (Sm p.names) (.string s.data.toList)=true:=(has_Sm _ _).2 hm
 have hkey:=hide (show keyOf Tryz.prog 9 (.string s)=some (.string s.data.toList) from WideMaps.keyOf_string_mk Tryz.underlying9 (by omega))
 have hown':Hid (∀ d,(W.drewN d).ownsMap Tryz.prog 9 (unitElem (H:=Unit)) b p.names.length (Sm p.names)):=fun d=>hown
 clear c hm hown
 go_enter Tryz.func93, Tryz.ntmps93
 go_wp2_with (first|(go_at_call 118;refine inn.out.mono ?_;rintro e w1 ⟨rfl,m1,rfl⟩)|(at_lookup;refine wpList_lookup_own_unit _ rfl _ _ 121 rfl 9 133 keyS Tryz.underlying121 (zeroU _) b p.names.length _ rfl (hown'.out _) _ _ rfl hkey.out ?_;rw [hhas]))
 go_ret
 exact ⟨rfl,by repeat (first|exact ⟨rfl,rfl,rfl,Nat.le_refl _,fun _ _=>rfl⟩|refine below_al ?_)⟩
theorem Ck.name {qs:List Pt} {p:Pt} {g cp b:Nat} {s:ByteArray} {W1:World} (c:Ck W i B (.slice (some ⟨g,0,none⟩) (qs.length + 1) cp) (qs++[p]) begun broken) (h8:p.kind=8) (hb:p.mb=some b)
  (hg:W.grownBy W1 (some b)) (ho:W1.ownsMap Tryz.prog 9 (unitElem (H:=Unit)) b (p.names.length + 1) ((Sm p.names).put (.string s.data.toList) (.agg []))):Ck W1 i B (.slice (some ⟨g,0,none⟩) (qs.length + 1) cp) (qs++[{p with names:=p.names++[s]}]) begun broken:=by
 have hp:=c.ok p (by simp)
 have hbb:=hp.blt b hb
 have hgb:g≠b:=fun e=>hp.ne b hb c.row (by rw [←e];rfl)
 have hr:=c.row
 have hgl:=(World.ownsRow.lt hr g rfl).2
 have hiB:=c.iB
 have hkl:=c.kb.lt
 refine ⟨c.kb.same (hg.block i hkl (by simp;omega)),?_,?_,?_,c.iB,Nat.le_trans c.hB hg.size,by have:=c.len;simpa using this⟩
 ·have h2:=own_of (W1:=W1) hr fun k hk hlt=>hg.block k hlt (by cases hk;simpa using hgb)
  rw [pxs_app,pxs_one,List.length_append,List.length_singleton] at h2 ⊢
  exact h2
 ·intro q hq
  rcases List.mem_append.1 hq with h|h
  ·have hq2:=c.ok q (List.mem_append.2 (Or.inl h))
   refine hq2.of fun b' e=>hg.block b' (hq2.blt b' e).2 ?_
   intro e2
   cases e2
   have hd:=c.dis
   rw [List.filterMap_append] at hd
   refine (List.nodup_append.1 hd).2.2 b (List.mem_filterMap.2 ⟨q,h,e⟩) b (List.mem_filterMap.2 ⟨p,by simp,hb⟩) rfl
  ·have hq2:q={p with names:=p.names++[s]}:=by simpa using h
   subst hq2
   refine Or.inl ⟨h8,b,hb,hbb.1,?_⟩
   show W1.ownsMap _ _ _ _ (p.names++[s]).length (Sm (p.names++[s]))
   rw [Sm_app,List.length_append,List.length_singleton]
   exact ho
 ·have:=c.dis
  rw [List.filterMap_append] at this ⊢
  exact this
set_option maxRecDepth 100000 in
theorem takeName_some (s:ByteArray) {qs:List Pt} {p:Pt} (c:Ck W i B v (qs++[p]) begun broken) (h8:p.kind=8) (hw:p.waits=false) (hm:¬ s∈p.names) (hs:s.size≤281474976710656) (hn:p.names.length≤300000):Calls Tryz.prog 93 #[.pointer (some ⟨i,0,none⟩),.string s] W fun r w'=>r=.returned (.bool true)∧Ck w' i B v (qs++[{p with waits:=true,names:=p.names++[s]}]) begun broken∧BK i W w':=by
 have ml:maxLen=9223372036854775807:=rfl
 obtain ⟨g,cp,rfl,h1,h2,h3,k0,k1,k2,kf⟩:=c.last
 have inn:=hide (inner_some (W:=W) (i:=i) g cp qs.length c.kb.cells.1 h1 h2)
 rw [hw] at k1
 rw [h8] at k0
 obtain ⟨b,hb,hbB,hown⟩:∃ b,p.mb=some b∧B≤b∧W.ownsMap Tryz.prog 9 (unitElem (H:=Unit)) b p.names.length (Sm p.names):=by
  rcases c.ok p (by simp) with ⟨_,h⟩|⟨h,_⟩
  ·exact h
  ·exact absurd h8 h
 rw [hb] at k2
 have hhas:Maps.has (Sm p.names) (.string s.data.toList)=false:=by
  rw [Bool.eq_false_iff]
  exact fun h=>hm ((has_Sm _ _).1 h)
 have hkey:=hide (show keyOf Tryz.prog 9 (.string s)=some (.string s.data.toList) from WideMaps.keyOf_string_mk Tryz.underlying9 (by omega))
 have hown':Hid (∀ d,(W.drewN d).ownsMap Tryz.prog 9 (unitElem (H:=Unit)) b p.names.length (Sm p.names)):=fun d=>hown
 have hd0:Hid (∀ d o,Below W.heap.size W ((W.drewN d).alloc o)):=fun d o=>below_al ⟨rfl,rfl,rfl,Nat.le_refl _,fun _ _=>rfl⟩
 have hownA:Hid (∀ d o,((W.drewN d).alloc o).ownsMap Tryz.prog 9 (unitElem (H:=Unit)) b p.names.length (Sm p.names)):=fun d o=>ownsMap_below hown (hd0.out d o)
 have C:Hid (∀ d o,Ck ((W.drewN d).alloc o) i B (.slice (some ⟨g,0,none⟩) (qs.length + 1) cp) (qs++[p]) begun broken):=fun d o=>c.then (hd0.out d o)
 have hiB:=c.iB
 have hb':=hide hb
 have h8':=hide h8
 have hgb:Hid (g≠b):=fun e=>(c.ok p (by simp)).ne b hb c.row (by rw [←e];rfl)
 have hgl:Hid (g<W.heap.size):=(World.ownsRow.lt c.row g rfl).2
 have hkm:p.names.length<maxLen:=by omega
 have k2A:∀ d o,((W.drewN d).alloc o).cell? ⟨g,qs.length * 3 + 2,none⟩=some (.map (some b)):=fun d o=>((hd0.out d o).cell (p:=⟨g,qs.length * 3 + 2,none⟩) hgl.out).trans k2
 clear c hm hown hb h8
 go_enter Tryz.func93, Tryz.ntmps93
 go_wp2_with (first
  | (go_at_call 118;refine inn.out.mono ?_;rintro e w1 ⟨rfl,m1,rfl⟩)
  | (at_lookup;refine wpList_lookup_own_unit _ rfl _ _ 121 rfl 9 133 keyS Tryz.underlying121 (zeroU _) b p.names.length _ rfl (hown'.out _) _ _ rfl hkey.out ?_;rw [hhas])
  | (at_mapUpdate;refine wpList_mapUpdate_own _ rfl _ _ _ 121 rfl 9 133 keyS Tryz.underlying121 (unitElem (H:=Unit)) b p.names.length _ rfl (hownA.out _ _) hkm _ _ _ rfl rfl hkey.out _ [] unitElem_mk ?_;intro w2 hown2 hgrow2;have C2:=hide ((C.out _ _).name h8'.out hb'.out hgrow2 hown2);have j1:w2.cell? ⟨g,qs.length * 3 + 1,none⟩=some (.bool false):=((World.cell?_of_block (a:=⟨g,qs.length * 3 + 1,none⟩) ((hgrow2.block g (Nat.lt_of_lt_of_le hgl.out (hd0.out _ _).size) (by simpa using hgb.out)).trans ((hd0.out _ _).block g hgl.out))).trans k1);have j2:w2.frozen? ⟨g,qs.length * 3 + 1,none⟩=false:=((World.frozen?_of_block (a:=⟨g,qs.length * 3 + 1,none⟩) ((hgrow2.block g (Nat.lt_of_lt_of_le hgl.out (hd0.out _ _).size) (by simpa using hgb.out)).trans ((hd0.out _ _).block g hgl.out))).trans (kf _));have G2:=hide hgrow2;clear hown2 hgrow2))
 go_ret
 refine ⟨rfl,C2.out.wait true,?_⟩
 refine BK.set (p:=⟨g,qs.length * 3 + 1,none⟩) ?_ (show i≤g by omega) (row_ty (by have:=C2.out.row;rwa [List.length_append,List.length_singleton] at this)) _
 exact (BK.of (hd0.out _ _) (by have:=hgl.out;omega)).grown G2.out (by have:=hgl.out;have:=(hd0.out m1 (.cells #[] 80)).size;first|omega|(simp;omega)) (fun j hj=>by cases hj;exact ⟨by omega,map_ty (hownA.out _ _)⟩)
end
abbrev Pa:=Int×Bool×List ByteArray
def Pt.abs (p:Pt):Pa:=(p.kind,p.waits,p.names)
def valE:List Pa→Bool→Option (List Pa×Bool)
 | [],bg=>if bg then none else some ([],true)
 | (k,w,ns) :: r,bg=>if w=true∨k=7 then some ((k,false,ns) :: r,bg) else none
def newE (k:Int):List Pa:=if k=7 then [(7,false,[])] else if k=8 then [(8,false,[])] else if k=9 then [(9,true,[])] else []
def inN (ns:List ByteArray) (s:ByteArray):Bool:=ns.any fun t=>decide (t.data=s.data)
theorem inN_iff (ns:List ByteArray) (s:ByteArray):inN ns s=true↔s∈ns:=by
 unfold inN
 rw [List.any_eq_true]
 constructor
 ·rintro ⟨t,ht,he⟩
  have:t=s:=by cases t;cases s;simp at he;rw [he]
  rw [←this];exact ht
 ·intro h;exact ⟨s,h,by simp⟩
def stepE (st:List Pa) (bg:Bool) (h:Hd):Option (List Pa×Bool) :=
 if h.kind=10 then match st with
  | []=>none
  | (k,w,ns) :: r=>if k=8∧w=false∧inN ns h.text=false then some ((8,true,ns++[h.text]) :: r,bg) else none
 else if h.kind=11 then match st with
  | []=>none
  | (_,w,_) :: r=>if w=false then some (r,bg) else none
 else (valE st bg).map fun x=>(newE h.kind++x.1,x.2)
def CkA (W:World) (i B n:Nat) (st:List Pa) (bg:Bool):Prop:=∃ v ps,Ck W i B v ps bg false∧(ps.map Pt.abs).reverse=st∧ps.length≤n∧∀ p∈ps,p.names.length≤n
theorem CkA.then {W W1:World} {i B n:Nat} {st:List Pa} {bg:Bool} (h:CkA W i B n st bg) (hb:Below W.heap.size W W1):CkA W1 i B n st bg:=by
 obtain ⟨v,ps,h1,h2⟩:=h
 exact ⟨v,ps,h1.then hb,h2⟩
theorem split_ps {ps:List Pt} {a:Pa} {r:List Pa} (h:(ps.map Pt.abs).reverse=a :: r):∃ qs p,ps=qs++[p]∧p.abs=a∧(qs.map Pt.abs).reverse=r:=by
 rcases List.eq_nil_or_concat ps with rfl|⟨qs,p,rfl⟩
 ·simp at h
 ·rw [List.concat_eq_append] at h ⊢
  rw [List.map_append,List.reverse_append] at h
  simp at h
  exact ⟨qs,p,rfl,h.1,by simpa using h.2⟩
theorem nil_ps {ps:List Pt} (h:(ps.map Pt.abs).reverse=[]):ps=[]:=by simpa using h
section
variable {W : World} {i B n : Nat} {st : List Pa} {bg : Bool}
theorem takeName_any (s:ByteArray) (c:CkA W i B n st bg) (hn:n≤200000) (hs:s.size≤281474976710656) (o:Option (List Pa×Bool)) (ho:stepE st bg ⟨10,false,false,⟨#[]⟩,0,0,s,[]⟩=o) :
  Calls Tryz.prog 93 #[.pointer (some ⟨i,0,none⟩),.string s] W fun r w'=>r=.returned (.bool o.isSome)∧BK i W w'∧(∃ v2 b2,KB w' i v2 b2 false)∧∀ x,o=some x→CkA w' i B (n + 1) x.1 x.2:=by
 obtain ⟨v,ps,c,hps,hl,hnm⟩:=c
 have hlt:=c.kb.lt
 cases st with
 | nil =>
  obtain rfl:=nil_ps hps
  have ho2:o=none:=by rw [←ho];rfl
  subst ho2
  refine (takeName_none s c).mono ?_
  rintro r w' ⟨rfl,m,rfl⟩
  exact ⟨rfl,BK.dn _ _ _,⟨v,bg,c.kb.same rfl⟩,fun x h=>by cases h⟩
 | cons a r =>
  obtain ⟨qs,p,rfl,hp,hr⟩:=split_ps hps
  obtain ⟨k,w,ns⟩:=a
  simp only [Pt.abs,Prod.mk.injEq] at hp
  obtain ⟨rfl,rfl,rfl⟩:=hp
  have hst:stepE ((p.kind,p.waits,p.names) :: r) bg ⟨10,false,false,⟨#[]⟩,0,0,s,[]⟩=if p.kind=8∧p.waits=false∧inN p.names s=false then some ((8,true,p.names++[s]) :: r,bg) else none:=rfl
  rw [hst] at ho
  by_cases h1:p.kind≠8∨p.waits=true
  ·have ho2:o=none:=by
    rw [←ho,if_neg]
    rintro ⟨a1,a2,_⟩
    rcases h1 with h|h
    ·exact h a1
    ·rw [a2] at h;cases h
   subst ho2
   refine (takeName_no s c h1).mono ?_
   rintro r w' ⟨rfl,m,rfl⟩
   exact ⟨rfl,BK.dn _ _ _,⟨v,bg,c.kb.same rfl⟩,fun x h=>by cases h⟩
  ·have h8:p.kind=8:=by
    by_cases h:p.kind=8
    ·exact h
    ·exact absurd (Or.inl h) h1
   have hw:p.waits=false:=by
    cases h:p.waits
    ·rfl
    ·exact absurd (Or.inr h) h1
   by_cases hm:s∈p.names
   ·have ho2:o=none:=by
     rw [←ho,if_neg]
     rintro ⟨_,_,a3⟩
     rw [(inN_iff _ _).2 hm] at a3
     cases a3
    subst ho2
    refine (takeName_twice s c h8 hw hm hs).mono ?_
    rintro r w' ⟨rfl,hb⟩
    exact ⟨rfl,BK.of hb (Nat.le_of_lt hlt),⟨v,bg,c.kb.same (hb.block i hlt)⟩,fun x h=>by cases h⟩
   ·have ho2:o=some ((8,true,p.names++[s]) :: r,bg):=by rw [←ho,if_pos ⟨h8,hw,by rw [Bool.eq_false_iff];exact fun h=>hm ((inN_iff _ _).1 h)⟩]
    subst ho2
    have hpn:=hnm p (by simp)
    refine (takeName_some s c h8 hw hm hs (by omega)).mono ?_
    rintro r' w' ⟨rfl,hc,hb⟩
    refine ⟨rfl,hb,⟨v,bg,hc.kb⟩,fun x h=>?_⟩
    cases h
    refine ⟨v,_,hc,?_,by simp at hl ⊢;omega,?_⟩
    ·rw [List.map_append,List.reverse_append]
     simp [Pt.abs,h8]
     simpa using hr
    ·intro q hq
     rcases List.mem_append.1 hq with h|h
     ·have:=hnm q (List.mem_append.2 (Or.inl h));omega
     ·have hq2:q={p with waits:=true,names:=p.names++[s]}:=by simpa using h
      subst hq2
      simp;omega
theorem takeEnd_any (c:CkA W i B n st bg) (o:Option (List Pa×Bool)) (ho:stepE st bg ⟨11,false,false,⟨#[]⟩,0,0,⟨#[]⟩,[]⟩=o) :
  Calls Tryz.prog 94 #[.pointer (some ⟨i,0,none⟩)] W fun r w'=>r=.returned (.bool o.isSome)∧BK i W w'∧(∃ v2 b2,KB w' i v2 b2 false)∧∀ x,o=some x→CkA w' i B (n + 1) x.1 x.2:=by
 obtain ⟨v,ps,c,hps,hl,hnm⟩:=c
 have hlt:=c.kb.lt
 cases st with
 | nil =>
  obtain rfl:=nil_ps hps
  have ho2:o=none:=by rw [←ho];rfl
  subst ho2
  refine (takeEnd_none c).mono ?_
  rintro r w' ⟨rfl,rfl⟩
  exact ⟨rfl,BK.refl _ _,⟨v,bg,c.kb⟩,fun x h=>by cases h⟩
 | cons a r =>
  obtain ⟨qs,p,rfl,hp,hr⟩:=split_ps hps
  obtain ⟨k,w,ns⟩:=a
  simp only [Pt.abs,Prod.mk.injEq] at hp
  obtain ⟨rfl,rfl,rfl⟩:=hp
  have hst:stepE ((p.kind,p.waits,p.names) :: r) bg ⟨11,false,false,⟨#[]⟩,0,0,⟨#[]⟩,[]⟩=if p.waits=false then some (r,bg) else none:=rfl
  rw [hst] at ho
  cases hw:p.waits
  ·have ho2:o=some (r,bg):=by rw [←ho,if_pos hw]
   subst ho2
   refine (takeEnd_some c hw).mono ?_
   rintro r' w' ⟨rfl,v',hc,hb⟩
   refine ⟨rfl,hb,⟨v',bg,hc.kb⟩,fun x h=>?_⟩
   cases h
   exact ⟨v',qs,hc,hr,by simp at hl;omega,fun q hq=>by have:=hnm q (List.mem_append.2 (Or.inl hq));omega⟩
  ·have ho2:o=none:=by rw [←ho,hw];rfl
   subst ho2
   refine (takeEnd_wait c hw).mono ?_
   rintro r w' ⟨rfl,m,rfl⟩
   exact ⟨rfl,BK.dn _ _ _,⟨v,bg,c.kb.same rfl⟩,fun x h=>by cases h⟩
theorem takeValue_any {W0:World} (c0:CkA W0 i B n st bg) (hb0:Below W0.heap.size W0 W) (o:Option (List Pa×Bool)) (ho:valE st bg=o) :
  Calls Tryz.prog 95 #[.pointer (some ⟨i,0,none⟩)] W fun r w'=>r=.returned (.bool o.isSome)∧BK i W w'∧(∃ v2 b2,KB w' i v2 b2 false)∧(∀ x,o=some x→CkA w' i B n x.1 x.2)∧∀ k,W0.heap.size≤k→w'.heap[k]?=W.heap[k]?:=by
 obtain ⟨v,ps,c0,hps,hl,hnm⟩:=c0
 have c:=c0.then hb0
 have hi0:=c0.kb.lt
 have hv0:∀ k,W0.heap.size≤k→v.ownBlock≠some k:=fun k hk e=>by have:=(World.ownsRow.lt c0.row k e).2;omega
 cases st with
 | nil =>
  obtain rfl:=nil_ps hps
  refine (takeValue_none c).mono ?_
  rintro r w' ⟨rfl,hc,hb',hfr⟩
  have hb:BK i W w':=⟨hb',fun q cc T f e h1 h2=>by
   rw [hfr q (fun ei=>by rcases (ei ▸ c.kb.ty) cc T f e with r|r;exact h1 r;exact h2 r)]
   exact e⟩
  cases bg
  ·have ho2:o=some ([],true):=by rw [←ho];rfl
   subst ho2
   exact ⟨rfl,hb,⟨_,_,hc.kb⟩,(fun x h=>by cases h;exact ⟨v,[],hc,rfl,Nat.zero_le _,fun p hp=>by simp at hp⟩),fun k hk=>hfr k (by omega)⟩
  ·have ho2:o=none:=by rw [←ho];rfl
   subst ho2
   exact ⟨rfl,hb,⟨_,_,hc.kb⟩,(fun x h=>by cases h),fun k hk=>hfr k (by omega)⟩
 | cons a r =>
  obtain ⟨qs,p,rfl,hp,hr⟩:=split_ps hps
  obtain ⟨k,w,ns⟩:=a
  simp only [Pt.abs,Prod.mk.injEq] at hp
  obtain ⟨rfl,rfl,rfl⟩:=hp
  have hst:valE ((p.kind,p.waits,p.names) :: r) bg=if p.waits=true∨p.kind=7 then some ((p.kind,false,p.names) :: r,bg) else none:=rfl
  rw [hst] at ho
  refine (takeValue_some c).mono ?_
  rintro r' w' ⟨rfl,hc,hb',hfr⟩
  have hb:BK i W w':=⟨hb',fun q cc T f e h1 h2=>by
   rw [hfr q (fun ei=>by rcases (ei ▸ c.kb.ty) cc T f e with r|r;exact h1 r;exact h2 r) (fun eo=>by rcases own_ty c.row q eo cc T f e with r|r;exact h1 r;exact h2 r)]
   exact e⟩
  have hcv:CkA w' i B n ((p.kind,false,p.names) :: r) bg:=by
   refine ⟨v,_,hc,?_,by simpa using hl,?_⟩
   ·rw [List.map_append,List.reverse_append]
    simp [Pt.abs]
    simpa using hr
   ·intro q hq
    rcases List.mem_append.1 hq with h|h
    ·exact hnm q (List.mem_append.2 (Or.inl h))
    ·have hq2:q={p with waits:=false}:=by simpa using h
     subst hq2
     exact hnm p (by simp)
  by_cases hw:p.waits=true∨p.kind=7
  ·have ho2:o=some ((p.kind,false,p.names) :: r,bg):=by rw [←ho,if_pos hw]
   subst ho2
   refine ⟨?_,hb,⟨_,_,hc.kb⟩,(fun x h=>by cases h;exact hcv),fun k hk=>hfr k (by omega) (hv0 k hk)⟩
   rcases hw with h|h <;> simp [h]
  ·have ho2:o=none:=by rw [←ho,if_neg hw]
   subst ho2
   refine ⟨?_,hb,⟨_,_,hc.kb⟩,(fun x h=>by cases h),fun k hk=>hfr k (by omega) (hv0 k hk)⟩
   have h1:p.waits=false:=by cases h:p.waits;rfl;exact absurd (Or.inl h) hw
   have h2:¬ p.kind=7:=fun h=>hw (Or.inr h)
   simp [h1,h2]
end
end Go.Proofs.YthodiandebahdaaGreatDoor
