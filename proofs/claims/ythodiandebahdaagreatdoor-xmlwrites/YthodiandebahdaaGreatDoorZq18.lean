/- Merged by program: EaHead, EbChk, EcChk, EdChk. -/
import Derived.Test.YthodiandebahdaaGreatDoorZq17
namespace Go.Proofs.YthodiandebahdaaGreatDoor
open Go.RowKit
set_option linter.unusedSimpArgs false
set_option linter.unusedVariables false
set_option maxHeartbeats 8000000
def evs (h:Hd):Array Value:=#[.int .i64 h.kind,.bool h.flag,.bool h.neg,.string h.dig,.int .i64 h.exp,.int .u64 h.bits,.string h.text]
def EvZ (h:Hd):Prop:=h.text.size≤281474976710656∧h.dig.size≤281474976710656∧h.names=[]
theorem head_any (h:Hd)(w:World):Calls Tryz.prog 66 #[.agg (evs h)] w fun e w'=>e=.returned (.agg (vals h (.slice none 0 0) (.slice none 0 0)))∧Below w.heap.size w w':=by
 unfold evs
 go_enter Tryz.func66, Tryz.ntmps66
 go_wp2
 exact bodyPost_ret (v:=.agg #[.int .i64 h.kind,.bool h.flag,.bool h.neg,.string h.dig,.int .i64 h.exp,.int .u64 h.bits,.string h.text,.slice none 0 0,.slice none 0 0]) (by simp [results,Tryz.results66,go_sem]) rfl ⟨rfl,by repeat (first|exact Below.refl _ _|refine below_al ?_)⟩
def tv (h:Hd)(l:List (VT 1)):VT 2:=(h,l)
def null1:VT 1:=(zr 1,[])
def mayV (h:Hd):VT 2:=if h.kind=9∨h.kind=10 then tv {h with kind:=9} [null1] else if h.kind=11 then tv {h with kind:=1} [] else tv h []
def May (h:Hd):Prop:=IsV 2 (mayV h)
def EB (W:World)(i:Nat)(h:Hd):Prop:=W.heap[i]?=some (.cells (evs h) 76 (0,0))
theorem EB.new (w:World)(h:Hd):EB (w.alloc (.cells (evs h) 76)) w.heap.size h:=heap_alloc_new _ _
theorem EB.lt {W:World} {i:Nat} {h:Hd} (q:EB W i h):i<W.heap.size:=by
 by_cases k:i<W.heap.size
 ·exact k
 ·unfold EB at q
  rw [Array.getElem?_eq_none (by omega)] at q
  cases q
theorem EB.same {W W1:World} {i:Nat} {h:Hd} (q:EB W i h)(k:W1.heap[i]?=W.heap[i]?):EB W1 i h:=by unfold EB;rw [k];exact q
theorem EB.below {W W1:World} {i:Nat} {h:Hd} (q:EB W i h)(hb:Below W.heap.size W W1):EB W1 i h:=q.same (hb.block _ q.lt)
theorem EB.cells {W:World} {i:Nat} {h:Hd} (q:EB W i h):W.cell? ⟨i,0,none⟩=some (.int .i64 h.kind)∧W.cell? ⟨i,1,none⟩=some (.bool h.flag)∧W.cell? ⟨i,2,none⟩=some (.bool h.neg)∧W.cell? ⟨i,3,none⟩=some (.string h.dig)∧W.cell? ⟨i,4,none⟩=some (.int .i64 h.exp)∧W.cell? ⟨i,5,none⟩=some (.int .u64 h.bits)∧W.cell? ⟨i,6,none⟩=some (.string h.text):=by
 unfold EB evs at q
 simp [World.cell?,q]
theorem sz_one {h:Hd} (hz:EvZ h)(k:Int):Sz 2 (tv {h with kind:=k} []):=⟨hz.1,hz.2.1,by show h.names.length≤_;rw [hz.2.2];simp,by intro s hs;have:s∈h.names:=hs;rw [hz.2.2] at this;simp at this,by intro y hy;exact absurd hy (by simp [tv])⟩
theorem rd_bare (w:World)(h:Hd)(hn:h.names=[]):RD 2 w (tv h []) (.slice none 0 0) (.slice none 0 0):=⟨Or.inl ⟨rfl,hn⟩,Or.inl ⟨rfl,rfl⟩⟩
theorem chk40 {n:Nat} {x:VT n} {E:Int} (h:Chk n x E):E≠40↔IsV n x:=by
 rcases h with ⟨rfl,h⟩|⟨rfl,h,_⟩|⟨rfl,h,_⟩
 ·simp [h]
 ·simp [h]
 ·simp [h]
theorem mayV_9 (h:Hd)(k:h.kind=9∨h.kind=10):mayV h=tv {h with kind:=9} [null1]:=if_pos k
theorem mayV_11 (h:Hd)(k:h.kind=11):mayV h=tv {h with kind:=1} []:=(if_neg (by omega)).trans (if_pos k)
theorem mayV_o (h:Hd)(k:h.kind≠9)(k2:h.kind≠10)(k3:h.kind≠11):mayV h=tv h []:=(if_neg (by omega)).trans (if_neg k3)
theorem may_q {h:Hd} {x:VT 2} {E:Int} {q:Bool} (hx:mayV h=x)(hE:Chk 2 x E)(hq:q=true↔May h):(E != 40)=q:=by
 have hm:May h↔E≠40:=by rw [chk40 hE];unfold May;rw [hx]
 rw [Bool.eq_iff_iff,hq,hm];simp
set_option maxRecDepth 100000 in
theorem mayBe_11 (h:Hd)(hz:EvZ h)(w:World)(g:Ut.Gu w)(q:Bool)(hq:q=true↔May h)(h11:h.kind=11):Calls Tryz.prog 64 #[.agg (evs h)] w fun e w'=>e=.returned (.bool q)∧Below w.heap.size w w':=by
 have hd:=hide (head_any h)
 obtain ⟨E,hE⟩:=chk_ex 2 (tv {h with kind:=1} [])
 have hfin:=may_q (mayV_11 h h11) hE hq
 have ck:=hide (fun W (hb:Below w.heap.size w W)=>check_any 2 (tv {h with kind:=1} []) (.slice none 0 0) (.slice none 0 0) W ⟨rd_bare W _ hz.2.2,sz_one hz 1,by simp [siz,suml,tv]⟩ (g.below hb) E hE)
 clear hq hE g hz
 obtain ⟨kd,fl,ng,dg,ex,bt,tx,nm⟩:=h
 simp only at h11
 subst h11
 have hfin':=hide hfin
 clear hfin
 simp only [vhd,vals,evs,tv] at ck hd ⊢
 go_enter Tryz.func64, Tryz.ntmps64
 go_wp2_with (go_at_call 66;refine (hd.out _).mono ?_;rintro e w1 ⟨rfl,hb1⟩;have B1:=hide (below_then (below_al (Below.refl _ _)) hb1);have d0:w1.cell? ⟨w.heap.size,0,none⟩=some (.int .i64 11):=one_cell hb1 0;have z1:w.heap.size<w1.heap.size:=(Nat.lt_of_lt_of_le (by simp) hb1.size);clear hb1)
 refine (ck.out _ (below_al B1.out)).mono ?_
 rintro e w2 ⟨rfl,hb2⟩
 have B2:=hide (below_then (below_al (o:=.cells #[.int .i64 1,.bool fl,.bool ng,.string dg,.int .i64 ex,.int .u64 bt,.string tx,.slice none 0 0,.slice none 0 0] 29) B1.out) hb2)
 clear hb2
 go_wp2_with fail
 go_ret
 exact ⟨by rw [←hfin'.out];rfl,B2.out⟩
set_option maxRecDepth 100000 in
theorem mayBe_o (h:Hd)(hz:EvZ h)(w:World)(g:Ut.Gu w)(q:Bool)(hq:q=true↔May h)(h9:h.kind≠9)(h10:h.kind≠10)(h11:h.kind≠11):Calls Tryz.prog 64 #[.agg (evs h)] w fun e w'=>e=.returned (.bool q)∧Below w.heap.size w w':=by
 have hd:=hide (head_any h)
 obtain ⟨E,hE⟩:=chk_ex 2 (tv h [])
 have hfin:=may_q (mayV_o h h9 h10 h11) hE hq
 have ck:=hide (fun W (hb:Below w.heap.size w W)=>check_any 2 (tv h []) (.slice none 0 0) (.slice none 0 0) W ⟨rd_bare W _ hz.2.2,sz_one hz h.kind,by simp [siz,suml,tv]⟩ (g.below hb) E hE)
 clear hq hE g hz
 obtain ⟨kd,fl,ng,dg,ex,bt,tx,nm⟩:=h
 simp only at h9 h10 h11
 have hfin':=hide hfin
 clear hfin
 simp only [vhd,vals,evs,tv] at ck hd ⊢
 go_enter Tryz.func64, Tryz.ntmps64
 go_wp2_with (go_at_call 66;refine (hd.out _).mono ?_;rintro e w1 ⟨rfl,hb1⟩;have B1:=hide (below_then (below_al (Below.refl _ _)) hb1);have d0:w1.cell? ⟨w.heap.size,0,none⟩=some (.int .i64 kd):=one_cell hb1 0;have z1:w.heap.size<w1.heap.size:=(Nat.lt_of_lt_of_le (by simp) hb1.size);clear hb1)
 refine (ck.out _ (below_al B1.out)).mono ?_
 rintro e w2 ⟨rfl,hb2⟩
 have B2:=hide (below_then (below_al (o:=.cells #[.int .i64 kd,.bool fl,.bool ng,.string dg,.int .i64 ex,.int .u64 bt,.string tx,.slice none 0 0,.slice none 0 0] 29) B1.out) hb2)
 clear hb2
 go_wp2_with fail
 go_ret
 exact ⟨by rw [←hfin'.out];rfl,B2.out⟩
theorem rd_tag (W:World)(h:Hd)(hn:h.names=[])(i:Nat)(hi:W.heap[i]?=some (.cells (vals (zr 1) (.slice none 0 0) (.slice none 0 0)) 29 (0,0))):RD 2 W (tv h [null1]) (.slice none 0 0) (.slice (some ⟨i,0,none⟩) 1 1):=by
 have b:Bx W i (zr 1) (.slice none 0 0) (.slice none 0 0):=⟨hi⟩
 refine ⟨Or.inl ⟨rfl,hn⟩,Or.inr ⟨i,0,1,none,rfl,Nat.le_refl _,by decide,fun _=>⟨rfl,b.lt⟩,fun k hk=>?_⟩⟩
 have hk0:k=0:=by have:k<1:=hk;omega
 subst hk0
 exact ⟨.slice none 0 0,.slice none 0 0,b.range,⟨Or.inl ⟨rfl,rfl⟩,Or.inl ⟨rfl,rfl⟩⟩⟩
theorem sz_tag {h:Hd} (hz:EvZ h):Sz 2 (tv {h with kind:=9} [null1]):=⟨hz.1,hz.2.1,by show h.names.length≤_;rw [hz.2.2];simp,by intro s hs;have:s∈h.names:=hs;rw [hz.2.2] at this;simp at this,by
 intro y hy
 have hy2:y=null1:=by simpa [tv] using hy
 subst hy2
 exact ⟨by decide,by decide,by simp [zr,null1],by intro s hs;simp [zr,null1] at hs,by intro y hy;exact absurd hy (by simp [null1])⟩⟩
set_option maxRecDepth 100000 in
theorem mayBe_9 (h:Hd)(hz:EvZ h)(w:World)(g:Ut.Gu w)(q:Bool)(hq:q=true↔May h)(k9:h.kind=9∨h.kind=10):Calls Tryz.prog 64 #[.agg (evs h)] w fun e w'=>e=.returned (.bool q)∧Below w.heap.size w w':=by
 have hd:=hide (head_any h)
 obtain ⟨E,hE⟩:=chk_ex 2 (tv {h with kind:=9} [null1])
 have hfin:=may_q (mayV_9 h k9) hE hq
 have ck:=hide (fun W i (hb:Below w.heap.size w W) hi=>check_any 2 (tv {h with kind:=9} [null1]) (.slice none 0 0) (.slice (some ⟨i,0,none⟩) 1 1) W ⟨rd_tag W _ hz.2.2 i hi,sz_tag hz,by show 1+((1+0)+0)≤200000;decide⟩ (g.below hb) E hE)
 clear hq hE g hz
 obtain ⟨kd,fl,ng,dg,ex,bt,tx,nm⟩:=h
 have hfin':=hide hfin
 clear hfin
 simp only at k9
 rcases k9 with k9|k9
 all_goals
  subst k9
  simp only [vhd,vals,evs,tv,zr] at ck hd ⊢
  go_enter Tryz.func64, Tryz.ntmps64
  go_wp2_with (go_at_call 66;refine (hd.out _).mono ?_;rintro e w1 ⟨rfl,hb1⟩;have B1:=hide (below_then (below_al (Below.refl _ _)) hb1);have d0:w1.cell? ⟨w.heap.size,0,none⟩=some (.int .i64 _):=one_cell hb1 0;have z1:w.heap.size<w1.heap.size:=(Nat.lt_of_lt_of_le (by simp) hb1.size);clear hb1)
  have hi:∀ o,((w1.alloc o).alloc (.cells #[.int .i64 1,.bool false,.bool false,.string ⟨#[]⟩,.int .i64 0,.int .u64 0,.string ⟨#[]⟩,.slice none 0 0,.slice none 0 0] 29)).heap[w1.heap.size+1]?=some (.cells #[.int .i64 1,.bool false,.bool false,.string ⟨#[]⟩,.int .i64 0,.int .u64 0,.string ⟨#[]⟩,.slice none 0 0,.slice none 0 0] 29 (0,0)):=fun o=>by
   rw [show w1.heap.size+1=(w1.alloc o).heap.size by simp]
   exact heap_alloc_new _ _
  refine (ck.out _ _ (below_al (below_al B1.out)) (hi _)).mono ?_
  rintro e w2 ⟨rfl,hb2⟩
  have B2:=hide (below_then (below_al (below_al B1.out)) hb2)
  clear hb2 hi
  go_wp2_with fail
  go_ret
  exact ⟨by rw [←hfin'.out];rfl,B2.out⟩
theorem mayBe_any (h:Hd)(hz:EvZ h)(w:World)(g:Ut.Gu w)(q:Bool)(hq:q=true↔May h):Calls Tryz.prog 64 #[.agg (evs h)] w fun e w'=>e=.returned (.bool q)∧Below w.heap.size w w':=by
 by_cases h9:h.kind=9∨h.kind=10
 ·exact mayBe_9 h hz w g q hq h9
 ·by_cases h11:h.kind=11
  ·exact mayBe_11 h hz w g q hq h11
  ·exact mayBe_o h hz w g q hq (by omega) (by omega) h11
structure Pt where
 kind:Int
 waits:Bool
 names:List ByteArray
 mb:Option Nat
def pcs (p:Pt):List Value:=[.int .i64 p.kind,.bool p.waits,.map p.mb]
def pxs (ps:List Pt):List Value:=ps.flatMap pcs
theorem pxs_length (ps:List Pt):(pxs ps).length=ps.length * 3:=by
 induction ps with
 | nil=>rfl
 | cons a l ih=>simp only [pxs,List.flatMap_cons,List.length_append,List.length_cons] at *;rw [ih];simp [pcs];omega
theorem pxs_app (a b:List Pt):pxs (a++b)=pxs a++pxs b:=by simp [pxs]
theorem pxs_one (p:Pt):pxs [p]=pcs p:=by simp [pxs]
theorem pxs_at (qs:List Pt)(p:Pt)(r:Nat):(pxs (qs++[p]))[qs.length * 3+r]?=(pcs p)[r]?:=by
 rw [pxs_app,pxs_one,List.getElem?_append_right (by rw [pxs_length];omega),pxs_length,Nat.add_sub_cancel_left]
theorem pxs_set (qs:List Pt)(p:Pt)(r:Nat)(u:Value):(pxs (qs++[p])).set (qs.length * 3+r) u=pxs qs++(pcs p).set r u:=by
 rw [pxs_app,pxs_one,List.set_append_right _ _ (by rw [pxs_length];omega),pxs_length,Nat.add_sub_cancel_left]
def Sm (l:List ByteArray):DataW Unit:=Sn l l.length
def PtOk (W:World)(B:Nat)(p:Pt):Prop:=(p.kind=8∧∃ b,p.mb=some b∧B≤b∧W.ownsMap Tryz.prog 9 (unitElem (H:=Unit)) b p.names.length (Sm p.names))∨(p.kind≠8∧p.mb=none∧p.names=[])
def KB (W:World)(i:Nat)(v:Value)(begun broken:Bool):Prop:=W.heap[i]?=some (.cells #[v,.bool begun,.bool broken] 101 (0,0))
structure Ck (W:World)(i B:Nat)(v:Value)(ps:List Pt)(begun broken:Bool):Prop where
 kb:KB W i v begun broken
 row:W.ownsRow B 123 3 v ps.length (pxs ps)
 ok:∀ p∈ps,PtOk W B p
 dis:(ps.filterMap Pt.mb).Nodup
 iB:i<B
 hB:B≤W.heap.size
 len:ps.length≤300000
section
variable {W W1 : World} {i B : Nat} {v : Value} {ps : List Pt} {begun broken : Bool}
theorem KB.cells (q:KB W i v begun broken):W.cell? ⟨i,0,none⟩=some v∧W.cell? ⟨i,1,none⟩=some (.bool begun)∧W.cell? ⟨i,2,none⟩=some (.bool broken)∧W.frozen? ⟨i,0,none⟩=false∧W.frozen? ⟨i,1,none⟩=false∧W.frozen? ⟨i,2,none⟩=false:=by
 unfold KB at q
 simp [World.cell?,World.frozen?,q]
theorem KB.lt (q:KB W i v begun broken):i<W.heap.size:=by
 by_cases h:i<W.heap.size
 ·exact h
 ·unfold KB at q
  rw [Array.getElem?_eq_none (by omega)] at q
  cases q
theorem KB.same (q:KB W i v begun broken)(h:W1.heap[i]?=W.heap[i]?):KB W1 i v begun broken:=by unfold KB;rw [h];exact q
theorem KB.set0 (q:KB W i v begun broken)(u:Value):KB (W.setCell ⟨i,0,none⟩ u) i u begun broken:=by
 unfold KB at q ⊢
 rw [setCell_eq_setRow W i 0 _ _ (0,0) _ q,setRow_heap W i _ _ _ (0,0) q]
 rfl
theorem KB.set1 (q:KB W i v begun broken)(u:Bool):KB (W.setCell ⟨i,1,none⟩ (.bool u)) i v u broken:=by
 unfold KB at q ⊢
 rw [setCell_eq_setRow W i 1 _ _ (0,0) _ q,setRow_heap W i _ _ _ (0,0) q]
 rfl
theorem KB.set2 (q:KB W i v begun broken)(u:Bool):KB (W.setCell ⟨i,2,none⟩ (.bool u)) i v begun u:=by
 unfold KB at q ⊢
 rw [setCell_eq_setRow W i 2 _ _ (0,0) _ q,setRow_heap W i _ _ _ (0,0) q]
 rfl
theorem own_of {B:Nat} {T:TypeId} {sz:Nat} {v:Value} {n:Nat} {xs:List Value} (h:W.ownsRow B T sz v n xs)(hb:∀ k,v.ownBlock=some k→k<W.heap.size→W1.heap[k]?=W.heap[k]?):W1.ownsRow B T sz v n xs:=by
 have hr:=World.ownsRow.lt h
 obtain ⟨h0,h⟩:=h
 refine ⟨h0,?_⟩
 rcases h with ⟨rfl,e⟩|⟨g,cap,cur,rfl,h2,h3,h4⟩
 ·exact Or.inl ⟨rfl,e⟩
 ·exact Or.inr ⟨g,cap,cur,rfl,h2,by rw [hb g rfl (hr g rfl).2];exact h3,h4⟩
theorem ownsMap_of {b n:Nat} {D:DataW Unit} (h:W.ownsMap Tryz.prog 9 (unitElem (H:=Unit)) b n D)(hb:W1.heap[b]?=W.heap[b]?):W1.ownsMap Tryz.prog 9 (unitElem (H:=Unit)) b n D:=by
 obtain ⟨es,clock,h1,h2⟩:=h
 exact ⟨es,clock,hb.trans h1,h2⟩
theorem ownsMap_lt {b n:Nat} {D:DataW Unit} (h:W.ownsMap Tryz.prog 9 (unitElem (H:=Unit)) b n D):b<W.heap.size:=World.ownsMap.lt h
theorem PtOk.of {p:Pt} (h:PtOk W B p)(hb:∀ b,p.mb=some b→W1.heap[b]?=W.heap[b]?):PtOk W1 B p:=by
 rcases h with ⟨k,b,e,h1,h2⟩|h
 ·exact Or.inl ⟨k,b,e,h1,ownsMap_of h2 (hb b e)⟩
 ·exact Or.inr h
theorem PtOk.blt {p:Pt} (h:PtOk W B p)(b:Nat)(e:p.mb=some b):B≤b∧b<W.heap.size:=by
 rcases h with ⟨_,b',e',h1,h2⟩|⟨_,e',_⟩
 ·rw [e] at e';cases e';exact ⟨h1,ownsMap_lt h2⟩
 ·rw [e] at e';cases e'
theorem PtOk.ne {p:Pt} (h:PtOk W B p)(b:Nat)(e:p.mb=some b) {n:Nat} {xs:List Value} (hr:W.ownsRow B 123 3 v n xs):v.ownBlock≠some b:=by
 intro hv
 rcases h with ⟨_,b',e',h1,es,clock,hm,_⟩|⟨_,e',_⟩
 ·rw [e] at e';cases e'
  rcases hr.2 with ⟨rfl,_⟩|⟨g,cap,cur,rfl,_,hg,_⟩
  ·cases hv
  ·cases hv
   rw [hg] at hm;cases hm
 ·rw [e] at e';cases e'
theorem Ck.then (h:Ck W i B v ps begun broken)(hb:Below W.heap.size W W1):Ck W1 i B v ps begun broken :=
 {h with kb:=h.kb.same (hb.block i h.kb.lt),row:=own_of h.row fun k _ hk=>hb.block k hk,ok:=fun p hp=>(h.ok p hp).of fun b e=>hb.block b ((h.ok p hp).blt b e).2,hB:=Nat.le_trans h.hB hb.size}
theorem Ck.new {w:World} {i B:Nat} {br:Bool} (h:KB w i (.slice none 0 0) false br)(h1:i<B)(h2:B≤w.heap.size):Ck w i B (.slice none 0 0) [] false br :=
 ⟨h,World.ownsRow_nil _ _ _ _,fun p hp=>by simp at hp,by simp,h1,h2,by simp⟩
end
def KC (W W':World):Prop:=∀ (q:Nat)(c:Array Value)(T:TypeId)(f:Nat×Nat),W.heap[q]?=some (.cells c T f)→T≠101→T≠123→W'.heap[q]?=some (.cells c T f)
def Ty (W:World)(k:Nat):Prop:=∀ (c:Array Value)(T:TypeId)(f:Nat×Nat),W.heap[k]?=some (.cells c T f)→T=101∨T=123
theorem KB.ty {W:World} {i:Nat} {v:Value} {b1 b2:Bool} (q:KB W i v b1 b2):Ty W i:=fun c T f h=>by
 unfold KB at q
 rw [q] at h
 cases h
 exact Or.inl rfl
theorem row_ty {W:World} {B g n cp:Nat} {xs:List Value} (h:W.ownsRow B 123 3 (.slice (some ⟨g,0,none⟩) n cp) n xs):Ty W g:=fun c T f hc=>by
 rcases h.2 with ⟨e,_⟩|⟨g',cap,cur,e,_,h2,_⟩
 ·cases e
 ·cases e
  rw [h2] at hc
  cases hc
  exact Or.inr rfl
theorem own_ty {W:World} {B n:Nat} {v:Value} {xs:List Value} (h:W.ownsRow B 123 3 v n xs)(g:Nat)(hg:v.ownBlock=some g):Ty W g:=fun c T f hc=>by
 rcases h.2 with ⟨rfl,_⟩|⟨g',cap,cur,rfl,_,h2,_⟩
 ·cases hg
 ·cases hg
  rw [h2] at hc
  cases hc
  exact Or.inr rfl
theorem map_ty {W:World} {b n:Nat} {D:DataW Unit} (h:W.ownsMap Tryz.prog 9 (unitElem (H:=Unit)) b n D):Ty W b:=fun c T f hc=>by
 obtain ⟨es,clock,h1,_⟩:=h
 rw [h1] at hc
 cases hc
theorem Ty.same {W W1:World} {k:Nat} (h:Ty W k)(e:W1.heap[k]?=W.heap[k]?):Ty W1 k:=fun c T f hc=>h c T f (e ▸ hc)
theorem Ty.set {W:World} {k:Nat} (h:Ty W k)(p:Addr)(u:Value):Ty (W.setCell p u) k:=fun c T f hc=>by
 by_cases e:k=p.block
 ·subst e
  simp only [World.setCell,Array.getElem?_modify,if_true] at hc
  cases hk:W.heap[p.block]? with
  | none=>rw [hk] at hc;cases hc
  | some o =>
   rw [hk] at hc
   cases o with
   | cells c' T' f'=>
    simp at hc
    obtain ⟨_,rfl,_⟩:=hc
    exact h c' T' f' hk
   | _=>simp at hc
 ·exact h c T f ((Below.heap_setCell W p u k e).symm.trans hc)
structure BK (i:Nat)(W W':World):Prop where
 below:Below i W W'
 kc:KC W W'
theorem KC.of {W W':World} (h:Below W.heap.size W W'):KC W W':=fun q c T f hq _ _=>(h.block q (Array.getElem?_eq_some_iff.1 hq).1).trans hq
theorem BK.refl (i:Nat)(W:World):BK i W W:=⟨Below.refl _ _,fun _ _ _ _ h _ _=>h⟩
theorem BK.trans {i:Nat} {A B C:World} (h:BK i A B)(k:BK i B C):BK i A C:=⟨h.below.trans k.below,fun q c T f e h1 h2=>k.kc q c T f (h.kc q c T f e h1 h2) h1 h2⟩
theorem BK.drew {i:Nat} {A B:World} (h:BK i A B):BK i A B.drew:=⟨h.below.drew,h.kc⟩
theorem BK.of {i:Nat} {W W':World} (h:Below W.heap.size W W')(hi:i≤W.heap.size):BK i W W':=⟨h.mono hi,KC.of h⟩
theorem BK.al {i:Nat} {A B:World} {o:Obj} (h:BK i A B)(hi:i≤B.heap.size):BK i A (B.alloc o):=h.trans (BK.of (below_al (Below.refl _ _)) hi)
theorem BK.set {i:Nat} {A B:World} (h:BK i A B) {p:Addr} (hp:i≤p.block)(ht:Ty B p.block)(u:Value):BK i A (B.setCell p u) :=
 ⟨h.below.setCell hp u,fun q c T f e h1 h2=>by
  have hq:=h.kc q c T f e h1 h2
  by_cases hk:q=p.block
  ·subst hk
   rcases ht c T f hq with r|r
   ·exact absurd r h1
   ·exact absurd r h2
  ·rw [Below.heap_setCell _ _ _ _ hk];exact hq⟩
theorem BK.grown {i:Nat} {A B C:World} {row:Option Nat} (h:BK i A B)(hg:B.grownBy C row)(hi:i≤B.heap.size)(hr:∀ k,row=some k→i≤k∧Ty B k):BK i A C :=
 ⟨h.below.grown hg hi (fun k e=>(hr k e).1),fun q c T f e h1 h2=>by
  have hq:=h.kc q c T f e h1 h2
  rw [hg.block q (Array.getElem?_eq_some_iff.1 hq).1 (fun er=>by
   rcases (hr q er.symm).2 c T f hq with r|r
   ·exact h1 r
   ·exact h2 r)]
  exact hq⟩
theorem BK.dn (i:Nat)(W:World)(m:Nat):BK i W (W.drewN m):=⟨⟨rfl,rfl,rfl,Nat.le_refl _,fun _ _=>rfl⟩,fun _ _ _ _ h _ _=>h⟩
theorem cnew_any (w:World):Calls Tryz.prog 34 #[] w fun r w'=>r=.returned (.pointer (some ⟨w.heap.size,0,none⟩))∧KB w' w.heap.size (.slice none 0 0) false false∧Below w.heap.size w w':=by
 go_enter Tryz.func34, Tryz.ntmps34
 go_wp2
 go_ret
 exact ⟨rfl,heap_alloc_new _ _,below_al (Below.refl _ _)⟩
section
variable {W : World} {i B : Nat} {v : Value} {ps : List Pt} {begun broken : Bool}
theorem Ck.shape (c:Ck W i B v ps begun broken):∃ a cp,v=.slice a ps.length cp:=by
 rcases c.row.2 with ⟨rfl,e⟩|⟨g,cap,cur,rfl,_⟩
 ·exact ⟨none,0,by rw [e]⟩
 ·exact ⟨_,_,rfl⟩
theorem cdone_any (c:Ck W i B v ps begun broken):Calls Tryz.prog 36 #[.pointer (some ⟨i,0,none⟩)] W fun r w'=>r=.returned (.bool (begun && decide (ps=[])))∧∃ m,w'=W.drewN m:=by
 obtain ⟨a,cp,rfl⟩:=c.shape
 obtain ⟨c0,c1,c2,f0,f1,f2⟩:=c.kb.cells
 have hn:Hid (decide (ps=[])=((ps.length:Int)==0)):=by
  show _=_
  cases ps <;> simp <;> omega
 clear c
 cases begun
 ·go_enter Tryz.func36, Tryz.ntmps36
  go_wp2
  go_ret
  exact ⟨rfl,0,rfl⟩
 ·go_enter Tryz.func36, Tryz.ntmps36
  go_wp2
  go_ret
  exact ⟨by rw [hn.out];rfl,0,rfl⟩
theorem inner_none (c:Ck W i B v [] begun broken):Calls Tryz.prog 118 #[.pointer (some ⟨i,0,none⟩)] W fun r w'=>r=.returned (.pointer none)∧w'=W:=by
 obtain ⟨a,cp,rfl⟩:=c.shape
 obtain ⟨c0,c1,c2,f0,f1,f2⟩:=c.kb.cells
 clear c
 go_enter Tryz.func118, Tryz.ntmps118
 go_wp2
 go_ret
 exact ⟨rfl,rfl⟩
theorem inner_some (g cp n:Nat)(c0:W.cell? ⟨i,0,none⟩=some (.slice (some ⟨g,0,none⟩) (n+1) cp))(h1:n+1≤cp)(h2:cp≤maxLen):Calls Tryz.prog 118 #[.pointer (some ⟨i,0,none⟩)] W fun r w'=>r=.returned (.pointer (some ⟨g,n * 3,none⟩))∧∃ m,w'=W.drewN m:=by
 have ml:maxLen=9223372036854775807:=rfl
 have hw:IntKind.i64.wrap ((n:Int)+1 - 1)=(n:Int):=by rw [IntKind.wrap_i64] <;> omega
 have hw2:IntKind.i64.wrap ((n:Int))=(n:Int):=by rw [IntKind.wrap_i64] <;> omega
 go_enter Tryz.func118, Tryz.ntmps118
 go_wp2
 go_quiet (fail)
 go_wp2
 go_ret
 exact ⟨by first|rfl|(simp;done)|trace_state,_,rfl⟩
theorem Ck.last {qs:List Pt} {p:Pt} (c:Ck W i B v (qs++[p]) begun broken):∃ g cp,v=.slice (some ⟨g,0,none⟩) (qs.length+1) cp∧qs.length+1≤cp∧cp≤maxLen∧B≤g∧W.cell? ⟨g,qs.length * 3,none⟩=some (.int .i64 p.kind)∧W.cell? ⟨g,qs.length * 3+1,none⟩=some (.bool p.waits)∧W.cell? ⟨g,qs.length * 3+2,none⟩=some (.map p.mb)∧∀ j,W.frozen? ⟨g,j,none⟩=false:=by
 have hr:=c.row
 rw [List.length_append,List.length_singleton] at hr
 rcases hr.2 with ⟨_,e⟩|⟨g,cap,cur,rfl,h1,h2,h3,h4,h5,h6⟩
 ·omega
 ·refine ⟨g,cap,rfl,h3,h4,h1,?_,?_,?_,fun j=>World.ownsRow.frozenAt hr j⟩
  ·rw [World.ownsRow.cellAt hr _ (by omega)];exact pxs_at qs p 0
  ·rw [World.ownsRow.cellAt hr _ (by omega)];exact pxs_at qs p 1
  ·rw [World.ownsRow.cellAt hr _ (by omega)];exact pxs_at qs p 2
theorem Ck.wait {qs:List Pt} {p:Pt} {g cp:Nat} (c:Ck W i B (.slice (some ⟨g,0,none⟩) (qs.length+1) cp) (qs++[p]) begun broken)(b:Bool):Ck (W.setCell ⟨g,qs.length * 3+1,none⟩ (.bool b)) i B (.slice (some ⟨g,0,none⟩) (qs.length+1) cp) (qs++[{p with waits:=b}]) begun broken:=by
 have hr:=c.row
 rw [List.length_append,List.length_singleton] at hr
 have hg:=(World.ownsRow.lt hr g rfl)
 have hs:=(World.ownsRow.stored hr (qs.length * 3+1) (.bool b)).1
 rw [pxs_set] at hs
 have hne:∀ k,k≠g→(W.setCell ⟨g,qs.length * 3+1,none⟩ (.bool b)).heap[k]?=W.heap[k]?:=fun k hk=>Below.heap_setCell _ _ _ _ hk
 refine ⟨c.kb.same (hne i (by have:=c.iB;omega)),?_,?_,?_,c.iB,by simpa using c.hB,by have:=c.len;simpa using this⟩
 ·rw [List.length_append,List.length_singleton,pxs_app,pxs_one]
  exact hs
 ·intro q hq
  rcases List.mem_append.1 hq with h|h
  ·exact (c.ok q (List.mem_append.2 (Or.inl h))).of fun b' e=>hne b' (fun e2=>(c.ok q (List.mem_append.2 (Or.inl h))).ne b' e c.row (by rw [e2];rfl))
  ·have hq2:q={p with waits:=b}:=by simpa using h
   subst hq2
   have hp:=c.ok p (by simp)
   have hp2:PtOk (W.setCell ⟨g,qs.length * 3+1,none⟩ (.bool b)) B p:=hp.of fun b' e=>hne b' (fun e2=>hp.ne b' e c.row (by rw [e2];rfl))
   exact hp2
 ·have:=c.dis
  rw [List.filterMap_append] at this ⊢
  exact this
theorem takeValue_some {qs:List Pt} {p:Pt} (c:Ck W i B v (qs++[p]) begun broken):Calls Tryz.prog 95 #[.pointer (some ⟨i,0,none⟩)] W fun r w'=>r=.returned (.bool (p.waits || decide (p.kind=7)))∧Ck w' i B v (qs++[{p with waits:=false}]) begun broken∧Below i W w'∧∀ k,k≠i→v.ownBlock≠some k→w'.heap[k]?=W.heap[k]?:=by
 have ml:maxLen=9223372036854775807:=rfl
 obtain ⟨g,cp,rfl,h1,h2,h3,k0,k1,k2,kf⟩:=c.last
 have inn:=hide (inner_some (W:=W) (i:=i) g cp qs.length c.kb.cells.1 h1 h2)
 have C:=hide (fun d=>(c.then (W1:=W.drewN d) ⟨rfl,rfl,rfl,Nat.le_refl _,fun _ _=>rfl⟩).wait false)
 have hz:=c.iB
 have hlt:=c.kb.lt
 have hkd:Hid (decide (p.kind=7)=(p.kind==7)):=by show _=_;rw [Bool.eq_iff_iff];simp
 clear c
 have hb:Hid (∀ d,Below i W ((W.drewN d).setCell ⟨g,qs.length * 3+1,none⟩ (.bool false))):=fun d=>(show Below i W (W.drewN d) from ⟨rfl,rfl,rfl,Nat.le_refl _,fun _ _=>rfl⟩).setCell (by show i≤g;omega) _
 have hfr:Hid (∀ d k,k≠i→(Value.slice (some ⟨g,0,none⟩) (qs.length+1) cp).ownBlock≠some k→((W.drewN d).setCell ⟨g,qs.length * 3+1,none⟩ (.bool false)).heap[k]?=W.heap[k]?):=fun d k _ hk=>Below.heap_setCell _ _ _ _ (fun e=>hk (by rw [show k=g from e];rfl))
 cases hw:p.waits
 ·go_enter Tryz.func95, Tryz.ntmps95
  go_wp2_with (go_at_call 118;refine inn.out.mono ?_;rintro e w1 ⟨rfl,m1,rfl⟩)
  go_ret
  exact ⟨by rw [hkd.out];rfl,C.out _,hb.out _,hfr.out _⟩
 ·go_enter Tryz.func95, Tryz.ntmps95
  go_wp2_with (go_at_call 118;refine inn.out.mono ?_;rintro e w1 ⟨rfl,m1,rfl⟩)
  go_ret
  exact ⟨rfl,C.out _,hb.out _,hfr.out _⟩
theorem takeValue_none (c:Ck W i B v [] begun broken):Calls Tryz.prog 95 #[.pointer (some ⟨i,0,none⟩)] W fun r w'=>r=.returned (.bool (!begun))∧Ck w' i B v [] true broken∧Below i W w'∧∀ k,k≠i→w'.heap[k]?=W.heap[k]?:=by
 have inn:=hide (inner_none c)
 obtain ⟨c0,c1,c2,f0,f1,f2⟩:=c.kb.cells
 have C:Hid (Ck (W.setCell ⟨i,1,none⟩ (.bool true)) i B v [] true broken):={c with kb:=c.kb.set1 true,row:=own_of c.row fun k hk _=>Below.heap_setCell _ _ _ _ (by have:=(World.ownsRow.lt c.row k hk).1;have:=c.iB;show k≠i;omega),ok:=fun p hp=>by simp at hp,hB:=by simpa using c.hB}
 clear c
 go_enter Tryz.func95, Tryz.ntmps95
 go_wp2_with (go_at_call 118;refine inn.out.mono ?_;rintro e w1 ⟨rfl,hw1⟩;have hw1s:=hw1.symm;clear hw1;subst hw1s)
 go_ret
 exact ⟨rfl,C.out,(Below.refl i W).setCell (Nat.le_refl _) _,fun k hk=>Below.heap_setCell _ _ _ _ hk⟩
theorem takeEnd_none (c:Ck W i B v [] begun broken):Calls Tryz.prog 94 #[.pointer (some ⟨i,0,none⟩)] W fun r w'=>r=.returned (.bool false)∧w'=W:=by
 have inn:=hide (inner_none c)
 clear c
 go_enter Tryz.func94, Tryz.ntmps94
 go_wp2_with (go_at_call 118;refine inn.out.mono ?_;rintro e w1 ⟨rfl,hw1⟩;have hw1s:=hw1.symm;clear hw1;subst hw1s)
 go_ret
 exact ⟨rfl,rfl⟩
theorem takeEnd_wait {qs:List Pt} {p:Pt} (c:Ck W i B v (qs++[p]) begun broken)(hp:p.waits=true):Calls Tryz.prog 94 #[.pointer (some ⟨i,0,none⟩)] W fun r w'=>r=.returned (.bool false)∧∃ m,w'=W.drewN m:=by
 have ml:maxLen=9223372036854775807:=rfl
 obtain ⟨g,cp,rfl,h1,h2,h3,k0,k1,k2,kf⟩:=c.last
 have inn:=hide (inner_some (W:=W) (i:=i) g cp qs.length c.kb.cells.1 h1 h2)
 rw [hp] at k1
 clear c
 go_enter Tryz.func94, Tryz.ntmps94
 go_wp2_with (go_at_call 118;refine inn.out.mono ?_;rintro e w1 ⟨rfl,m1,rfl⟩)
 go_ret
 exact ⟨rfl,_,rfl⟩
theorem row_less {g cp n:Nat} {xs:List Value} {T:TypeId} (h:W.ownsRow B T 3 (.slice (some ⟨g,0,none⟩) (n+1) cp) (n+1) xs):W.ownsRow B T 3 (.slice (some ⟨g,0,none⟩) n cp) n (xs.take (n * 3)):=by
 obtain ⟨h0,h⟩:=h
 refine ⟨by rw [List.length_take];omega,?_⟩
 rcases h with ⟨e,_⟩|⟨g',cap,cur,e,h1,h2,h3,h4,h5,h6⟩
 ·cases e
 ·simp only [Value.slice.injEq,Option.some.injEq,Addr.mk.injEq] at e
  obtain ⟨⟨rfl,_,_⟩,_,rfl⟩:=e
  refine Or.inr ⟨g,cp,cur,rfl,h1,h2,by omega,h4,h5,?_⟩
  rw [←h6,List.take_take]
  congr 1;omega
theorem Ck.less {qs:List Pt} {p:Pt} {g cp:Nat} (c:Ck W i B (.slice (some ⟨g,0,none⟩) (qs.length+1) cp) (qs++[p]) begun broken) :
  Ck ((((W.setCell ⟨g,qs.length * 3,none⟩ (.int .i64 0)).setCell ⟨g,qs.length * 3+1,none⟩ (.bool false)).setCell ⟨g,qs.length * 3+2,none⟩ (.map none)).setCell ⟨i,0,none⟩ (.slice (some ⟨g,0,none⟩) qs.length cp)) i B (.slice (some ⟨g,0,none⟩) qs.length cp) qs begun broken:=by
 have hr:=c.row
 rw [List.length_append,List.length_singleton] at hr
 have hg:=(World.ownsRow.lt hr g rfl)
 have hiB:=c.iB
 have s1:=(World.ownsRow.stored hr (qs.length * 3+0) (.int .i64 0)).1
 rw [pxs_set,show pxs qs++(pcs p).set 0 (.int .i64 0)=pxs (qs++[{p with kind:=0}]) by rw [pxs_app,pxs_one];rfl] at s1
 have s2:=(World.ownsRow.stored s1 (qs.length * 3+1) (.bool false)).1
 rw [pxs_set,show pxs qs++(pcs {p with kind:=0}).set 1 (.bool false)=pxs (qs++[{p with kind:=0,waits:=false}]) by rw [pxs_app,pxs_one];rfl] at s2
 have s3:=(World.ownsRow.stored s2 (qs.length * 3+2) (.map none)).1
 rw [pxs_set] at s3
 have s4:=row_less s3
 rw [List.take_append_of_le_length (by rw [pxs_length];exact Nat.le_refl _),List.take_of_length_le (by rw [pxs_length];exact Nat.le_refl _)] at s4
 have hne:∀ k,k≠g→k≠i→((((W.setCell ⟨g,qs.length * 3,none⟩ (.int .i64 0)).setCell ⟨g,qs.length * 3+1,none⟩ (.bool false)).setCell ⟨g,qs.length * 3+2,none⟩ (.map none)).setCell ⟨i,0,none⟩ (.slice (some ⟨g,0,none⟩) qs.length cp)).heap[k]?=W.heap[k]?:=fun k h1 h2=>by
  rw [Below.heap_setCell _ _ _ _ (show k≠i from h2),Below.heap_setCell _ _ _ _ (show k≠g from h1),Below.heap_setCell _ _ _ _ (show k≠g from h1),Below.heap_setCell _ _ _ _ (show k≠g from h1)]
 have kb:KB (((W.setCell ⟨g,qs.length * 3,none⟩ (.int .i64 0)).setCell ⟨g,qs.length * 3+1,none⟩ (.bool false)).setCell ⟨g,qs.length * 3+2,none⟩ (.map none)) i (.slice (some ⟨g,0,none⟩) (qs.length+1) cp) begun broken:=c.kb.same (by rw [Below.heap_setCell _ _ _ _ (show i≠g by omega),Below.heap_setCell _ _ _ _ (show i≠g by omega),Below.heap_setCell _ _ _ _ (show i≠g by omega)])
 refine ⟨kb.set0 _,own_of s4 fun k hk _=>Below.heap_setCell _ _ _ _ (by cases hk;show g≠i;omega),?_,?_,hiB,by simpa using c.hB,by have:=c.len;simp at this;omega⟩
 ·intro q hq
  have hq2:=c.ok q (List.mem_append.2 (Or.inl hq))
  exact hq2.of fun b' e=>hne b' (fun e2=>hq2.ne b' e c.row (by rw [e2];rfl)) (by have:=(hq2.blt b' e).1;omega)
 ·have:=c.dis
  rw [List.filterMap_append] at this
  exact (List.nodup_append.1 this).1
theorem takeEnd_some {qs:List Pt} {p:Pt} (c:Ck W i B v (qs++[p]) begun broken)(hp:p.waits=false):Calls Tryz.prog 94 #[.pointer (some ⟨i,0,none⟩)] W fun r w'=>r=.returned (.bool true)∧∃ v',Ck w' i B v' qs begun broken∧BK i W w':=by
 have ml:maxLen=9223372036854775807:=rfl
 obtain ⟨g,cp,rfl,h1,h2,h3,k0,k1,k2,kf⟩:=c.last
 have inn:=hide (inner_some (W:=W) (i:=i) g cp qs.length c.kb.cells.1 h1 h2)
 rw [hp] at k1
 obtain ⟨c0,c1,c2,f0,f1,f2⟩:=c.kb.cells
 have C:=hide c
 have hz:=c.iB
 have hw:IntKind.i64.wrap ((qs.length:Int)+1 - 1)=(qs.length:Int):=by rw [IntKind.wrap_i64] <;> omega
 clear c
 go_enter Tryz.func94, Tryz.ntmps94
 go_wp2_with (go_at_call 118;refine inn.out.mono ?_;rintro e w1 ⟨rfl,m1,rfl⟩)
 have hgi:g≠i:=by omega
 have hgi2:i≠g:=by omega
 have hw2:IntKind.i64.wrap (qs.length:Int)=(qs.length:Int):=by rw [IntKind.wrap_i64] <;> omega
 have hle:qs.length≤cp:=by omega
 go_region_with (fail)
 all_goals
  go_wp2
  go_ret
  refine ⟨rfl,_,(C.out.then (W1:=W.drewN m1) ⟨rfl,rfl,rfl,Nat.le_refl _,fun _ _=>rfl⟩).less.then (Below.refl _ _).drew,?_⟩
  have t0:Ty (W.drewN m1) g:=row_ty (by have:=C.out.row;rwa [List.length_append,List.length_singleton] at this)
  have t1:Ty (W.drewN m1) i:=C.out.kb.ty
  exact ((((((BK.dn i W m1).set (p:=⟨g,qs.length * 3,none⟩) (show i≤g by omega) t0 _).set (p:=⟨g,qs.length * 3+1,none⟩) (show i≤g by omega) (t0.set _ _) _).set (p:=⟨g,qs.length * 3+2,none⟩) (show i≤g by omega) ((t0.set _ _).set _ _) _).set (p:=⟨i,0,none⟩) (Nat.le_refl i) (((t1.set _ _).set _ _).set _ _) _)).drew
end
theorem Sm_app (l:List ByteArray)(s:ByteArray):Sm (l++[s])=(Sm l).put (.string s.data.toList) (.agg []):=by
 unfold Sm
 rw [List.length_append,List.length_singleton,Sn_succ _ _ (by simp)]
 congr 1
 ·unfold Sn
  rw [List.take_append_of_le_length (Nat.le_refl _)]
 ·simp
theorem has_Sm (l:List ByteArray)(s:ByteArray):Maps.has (Sm l) (.string s.data.toList)=true↔s∈l:=by
 unfold Sm
 rw [has_Sn,List.take_length]
section
variable {W : World} {i B : Nat} {v : Value} {ps : List Pt} {begun broken : Bool}
theorem takeName_none (s:ByteArray)(c:Ck W i B v [] begun broken):Calls Tryz.prog 93 #[.pointer (some ⟨i,0,none⟩),.string s] W fun r w'=>r=.returned (.bool false)∧∃ m,w'=W.drewN m:=by
 have inn:=hide (inner_none c)
 clear c
 go_enter Tryz.func93, Tryz.ntmps93
 go_wp2_with (go_at_call 118;refine inn.out.mono ?_;rintro e w1 ⟨rfl,hw1⟩;have hw1s:=hw1.symm;clear hw1;subst hw1s)
 go_ret
 exact ⟨rfl,0,rfl⟩
theorem takeName_no (s:ByteArray) {qs:List Pt} {p:Pt} (c:Ck W i B v (qs++[p]) begun broken)(hp:p.kind≠8∨p.waits=true):Calls Tryz.prog 93 #[.pointer (some ⟨i,0,none⟩),.string s] W fun r w'=>r=.returned (.bool false)∧∃ m,w'=W.drewN m:=by
 have ml:maxLen=9223372036854775807:=rfl
 obtain ⟨g,cp,rfl,h1,h2,h3,k0,k1,k2,kf⟩:=c.last
 have inn:=hide (inner_some (W:=W) (i:=i) g cp qs.length c.kb.cells.1 h1 h2)
 clear c
 by_cases h8:p.kind=8
 ·have hw:p.waits=true:=by rcases hp with h|h;exact absurd h8 h;exact h
  rw [hw] at k1
  rw [h8] at k0
  go_enter Tryz.func93, Tryz.ntmps93
  go_wp2_with (go_at_call 118;refine inn.out.mono ?_;rintro e w1 ⟨rfl,m1,rfl⟩)
  go_ret
  exact ⟨rfl,_,rfl⟩
 ·obtain ⟨kd,hkd⟩:∃ kd,p.kind=kd:=⟨_,rfl⟩
  rw [hkd] at k0 h8
  clear hp hkd
  go_enter Tryz.func93, Tryz.ntmps93
  go_wp2_with (go_at_call 118;refine inn.out.mono ?_;rintro e w1 ⟨rfl,m1,rfl⟩)
  go_ret
  exact ⟨rfl,_,rfl⟩
theorem takeName_twice (s:ByteArray) {qs:List Pt} {p:Pt} (c:Ck W i B v (qs++[p]) begun broken)(h8:p.kind=8)(hw:p.waits=false)(hm:s∈p.names)(hs:s.size≤281474976710656):Calls Tryz.prog 93 #[.pointer (some ⟨i,0,none⟩),.string s] W fun r w'=>r=.returned (.bool false)∧Below W.heap.size W w':=by
 have ml:maxLen=9223372036854775807:=rfl
 obtain ⟨g,cp,rfl,h1,h2,h3,k0,k1,k2,kf⟩:=c.last
 have inn:=hide (inner_some (W:=W) (i:=i) g cp qs.length c.kb.cells.1 h1 h2)
 rw [hw] at k1
 rw [h8] at k0
 obtain ⟨b,hb,hbB,hown⟩:∃ b,p.mb=some b∧B≤b∧W.ownsMap Tryz.prog 9 (unitElem (H:=Unit)) b p.names.length (Sm p.names):=by
  rcases c.ok p (by simp) with ⟨_,h⟩|⟨h,_⟩
  ·exact h
  ·exact absurd h8 h
 rw [hb] at k2
 have hhas:Maps.has (Sm p.names) (.string s.data.toList)=true:=(has_Sm _ _).2 hm
 have hkey:=hide (show keyOf Tryz.prog 9 (.string s)=some (.string s.data.toList) from WideMaps.keyOf_string_mk Tryz.underlying9 (by omega))
 have hown':Hid (∀ d,(W.drewN d).ownsMap Tryz.prog 9 (unitElem (H:=Unit)) b p.names.length (Sm p.names)):=fun d=>hown
 clear c hm hown
 go_enter Tryz.func93, Tryz.ntmps93
 go_wp2_with (first|(go_at_call 118;refine inn.out.mono ?_;rintro e w1 ⟨rfl,m1,rfl⟩)|(at_lookup;refine wpList_lookup_own_unit _ rfl _ _ 121 rfl 9 133 keyS Tryz.underlying121 (zeroU _) b p.names.length _ rfl (hown'.out _) _ _ rfl hkey.out ?_;rw [hhas]))
 go_ret
 exact ⟨rfl,by repeat (first|exact ⟨rfl,rfl,rfl,Nat.le_refl _,fun _ _=>rfl⟩|refine below_al ?_)⟩
theorem Ck.name {qs:List Pt} {p:Pt} {g cp b:Nat} {s:ByteArray} {W1:World} (c:Ck W i B (.slice (some ⟨g,0,none⟩) (qs.length+1) cp) (qs++[p]) begun broken)(h8:p.kind=8)(hb:p.mb=some b)
  (hg:W.grownBy W1 (some b))(ho:W1.ownsMap Tryz.prog 9 (unitElem (H:=Unit)) b (p.names.length+1) ((Sm p.names).put (.string s.data.toList) (.agg []))):Ck W1 i B (.slice (some ⟨g,0,none⟩) (qs.length+1) cp) (qs++[{p with names:=p.names++[s]}]) begun broken:=by
 have hp:=c.ok p (by simp)
 have hbb:=hp.blt b hb
 have hgb:g≠b:=fun e=>hp.ne b hb c.row (by rw [←e];rfl)
 have hr:=c.row
 have hgl:=(World.ownsRow.lt hr g rfl).2
 have hiB:=c.iB
 have hkl:=c.kb.lt
 refine ⟨c.kb.same (hg.block i hkl (by simp;omega)),?_,?_,?_,c.iB,Nat.le_trans c.hB hg.size,by have:=c.len;simpa using this⟩
 ·have h2:=own_of (W1:=W1) hr fun k hk hlt=>hg.block k hlt (by cases hk;simpa using hgb)
  rw [pxs_app,pxs_one,List.length_append,List.length_singleton] at h2 ⊢
  exact h2
 ·intro q hq
  rcases List.mem_append.1 hq with h|h
  ·have hq2:=c.ok q (List.mem_append.2 (Or.inl h))
   refine hq2.of fun b' e=>hg.block b' (hq2.blt b' e).2 ?_
   intro e2
   cases e2
   have hd:=c.dis
   rw [List.filterMap_append] at hd
   refine (List.nodup_append.1 hd).2.2 b (List.mem_filterMap.2 ⟨q,h,e⟩) b (List.mem_filterMap.2 ⟨p,by simp,hb⟩) rfl
  ·have hq2:q={p with names:=p.names++[s]}:=by simpa using h
   subst hq2
   refine Or.inl ⟨h8,b,hb,hbb.1,?_⟩
   show W1.ownsMap _ _ _ _ (p.names++[s]).length (Sm (p.names++[s]))
   rw [Sm_app,List.length_append,List.length_singleton]
   exact ho
 ·have:=c.dis
  rw [List.filterMap_append] at this ⊢
  exact this
set_option maxRecDepth 100000 in
theorem takeName_some (s:ByteArray) {qs:List Pt} {p:Pt} (c:Ck W i B v (qs++[p]) begun broken)(h8:p.kind=8)(hw:p.waits=false)(hm:¬ s∈p.names)(hs:s.size≤281474976710656)(hn:p.names.length≤300000):Calls Tryz.prog 93 #[.pointer (some ⟨i,0,none⟩),.string s] W fun r w'=>r=.returned (.bool true)∧Ck w' i B v (qs++[{p with waits:=true,names:=p.names++[s]}]) begun broken∧BK i W w':=by
 have ml:maxLen=9223372036854775807:=rfl
 obtain ⟨g,cp,rfl,h1,h2,h3,k0,k1,k2,kf⟩:=c.last
 have inn:=hide (inner_some (W:=W) (i:=i) g cp qs.length c.kb.cells.1 h1 h2)
 rw [hw] at k1
 rw [h8] at k0
 obtain ⟨b,hb,hbB,hown⟩:∃ b,p.mb=some b∧B≤b∧W.ownsMap Tryz.prog 9 (unitElem (H:=Unit)) b p.names.length (Sm p.names):=by
  rcases c.ok p (by simp) with ⟨_,h⟩|⟨h,_⟩
  ·exact h
  ·exact absurd h8 h
 rw [hb] at k2
 have hhas:Maps.has (Sm p.names) (.string s.data.toList)=false:=by
  rw [Bool.eq_false_iff]
  exact fun h=>hm ((has_Sm _ _).1 h)
 have hkey:=hide (show keyOf Tryz.prog 9 (.string s)=some (.string s.data.toList) from WideMaps.keyOf_string_mk Tryz.underlying9 (by omega))
 have hown':Hid (∀ d,(W.drewN d).ownsMap Tryz.prog 9 (unitElem (H:=Unit)) b p.names.length (Sm p.names)):=fun d=>hown
 have hd0:Hid (∀ d o,Below W.heap.size W ((W.drewN d).alloc o)):=fun d o=>below_al ⟨rfl,rfl,rfl,Nat.le_refl _,fun _ _=>rfl⟩
 have hownA:Hid (∀ d o,((W.drewN d).alloc o).ownsMap Tryz.prog 9 (unitElem (H:=Unit)) b p.names.length (Sm p.names)):=fun d o=>ownsMap_below hown (hd0.out d o)
 have C:Hid (∀ d o,Ck ((W.drewN d).alloc o) i B (.slice (some ⟨g,0,none⟩) (qs.length+1) cp) (qs++[p]) begun broken):=fun d o=>c.then (hd0.out d o)
 have hiB:=c.iB
 have hb':=hide hb
 have h8':=hide h8
 have hgb:Hid (g≠b):=fun e=>(c.ok p (by simp)).ne b hb c.row (by rw [←e];rfl)
 have hgl:Hid (g<W.heap.size):=(World.ownsRow.lt c.row g rfl).2
 have hkm:p.names.length<maxLen:=by omega
 have k2A:∀ d o,((W.drewN d).alloc o).cell? ⟨g,qs.length * 3+2,none⟩=some (.map (some b)):=fun d o=>((hd0.out d o).cell (p:=⟨g,qs.length * 3+2,none⟩) hgl.out).trans k2
 clear c hm hown hb h8
 go_enter Tryz.func93, Tryz.ntmps93
 go_wp2_with (first
  | (go_at_call 118;refine inn.out.mono ?_;rintro e w1 ⟨rfl,m1,rfl⟩)
  | (at_lookup;refine wpList_lookup_own_unit _ rfl _ _ 121 rfl 9 133 keyS Tryz.underlying121 (zeroU _) b p.names.length _ rfl (hown'.out _) _ _ rfl hkey.out ?_;rw [hhas])
  | (at_mapUpdate;refine wpList_mapUpdate_own _ rfl _ _ _ 121 rfl 9 133 keyS Tryz.underlying121 (unitElem (H:=Unit)) b p.names.length _ rfl (hownA.out _ _) hkm _ _ _ rfl rfl hkey.out _ [] unitElem_mk ?_;intro w2 hown2 hgrow2;have C2:=hide ((C.out _ _).name h8'.out hb'.out hgrow2 hown2);have j1:w2.cell? ⟨g,qs.length * 3+1,none⟩=some (.bool false):=((World.cell?_of_block (a:=⟨g,qs.length * 3+1,none⟩) ((hgrow2.block g (Nat.lt_of_lt_of_le hgl.out (hd0.out _ _).size) (by simpa using hgb.out)).trans ((hd0.out _ _).block g hgl.out))).trans k1);have j2:w2.frozen? ⟨g,qs.length * 3+1,none⟩=false:=((World.frozen?_of_block (a:=⟨g,qs.length * 3+1,none⟩) ((hgrow2.block g (Nat.lt_of_lt_of_le hgl.out (hd0.out _ _).size) (by simpa using hgb.out)).trans ((hd0.out _ _).block g hgl.out))).trans (kf _));have G2:=hide hgrow2;clear hown2 hgrow2))
 go_ret
 refine ⟨rfl,C2.out.wait true,?_⟩
 refine BK.set (p:=⟨g,qs.length * 3+1,none⟩) ?_ (show i≤g by omega) (row_ty (by have:=C2.out.row;rwa [List.length_append,List.length_singleton] at this)) _
 exact (BK.of (hd0.out _ _) (by have:=hgl.out;omega)).grown G2.out (by have:=hgl.out;have:=(hd0.out m1 (.cells #[] 80)).size;first|omega|(simp;omega)) (fun j hj=>by cases hj;exact ⟨by omega,map_ty (hownA.out _ _)⟩)
end
end Go.Proofs.YthodiandebahdaaGreatDoor
