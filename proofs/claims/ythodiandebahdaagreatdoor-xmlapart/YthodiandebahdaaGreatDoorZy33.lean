/- Merged by program: DrRead, DsRead, DtEval, DuEx, DvAwake. -/
import Derived.Test.YthodiandebahdaaGreatDoorZy32
import Derived.Test.YthodiandebahdaaGreatDoorZy22
import Derived.Lib.SlBytesConst
namespace Go.Proofs.YthodiandebahdaaGreatDoor
open Go.RowKit
set_option linter.unusedSimpArgs false
set_option linter.unusedVariables false
set_option maxHeartbeats 8000000
section
variable {w : World} {ops : Array Oper} {rest : List Oper} {o : Oper} {a : Act} {Q : Exit → Act → World → Prop}
theorem app_ee (hgd:o.guard=none) (s x:Operand) (ho:o.op=.call {callee:=.builtin .append,args:=#[s,x],argTypes:=#[45,45]})
  (B:Nat) (v:Value) (es:List Hd) (hs:a.eval s=v) (hown:w.ownsRow B 76 7 v es.length (ecs es)) (u:Value) (B':Nat) (fs:List Hd) (hx:a.eval x=u) (hu:w.ownsRow B' 76 7 u fs.length (ecs fs)) (hk:es.length + fs.length≤3000000) (hB:B≤w.heap.size)
  (h:∀ v' w',Hid (w'.ownsRow B 76 7 v' (es.length + fs.length) (ecs (es++fs)))→Hid (Below B w w')→Hid (∀ q,q<w.heap.size→v.ownBlock≠some q→w'.heap[q]?=w.heap[q]?)→wpList Tryz.prog ops Q rest (a.put o.dst v') w'):wpList Tryz.prog ops Q (o :: rest) a w:=by
 obtain ⟨i0,hi,hz0,hz1,hz2⟩:=info_parts infoE
 rcases id hu.2 with ⟨hu0,e0⟩|⟨g,cap,cur,hu0,_⟩
 ·have hf:fs=[]:=List.eq_nil_of_length_eq_zero (by rw [←e0])
  subst hf
  refine wpList_plain hgd fun K hK=>?_
  have hr:=run_append_owned_none (P:=Tryz.prog) w B 45 o.type 76 i0 7 Tryz.underlying45 hi v es.length (ecs es) hown
  rw [hu0] at hx
  unfold Oper.wp execOp
  simp only [ho,resolve,invoke,builtin,Sem.run_bind,Sem.run_pure,Result.andThen_ok,List.map_toArray,List.map_cons,List.map_nil,hs,hx,hr]
  exact hK _ _ (h v w (show w.ownsRow _ _ _ _ _ _ by simpa using hown) (Below.refl _ _) (fun _ _ _=>rfl))
 ·rw [hu0] at hx hu
  refine wpList_append_own_at w hgd s x 45 ho B 76 i0 _ 7 72 Tryz.underlying45 hi hz0 hz1 hz2 rfl (by decide) v es.length (ecs es) hs hown ⟨g,0,none⟩ fs.length cap (ecs fs) hx (by rw [ecs_len]) (row_news hu) (ecs_cell _) (by unfold maxLen;omega) (by omega) hB ?_
  intro v' w' h1 h2 _ _
  rw [←ecs_app] at h1
  exact h v' w' h1 ((Below.refl B w).grown h2 hB fun k hk=>(World.ownsRow.lt hown k hk).1) (fun q hq hv=>h2.block q hq (fun e=>hv e.symm))
end
def zV:Array Value:=#[.int .i64 0,.bool false,.bool false,.string ⟨#[]⟩,.int .i64 0,.int .u64 0,.string ⟨#[]⟩,.slice none 0 0,.slice none 0 0]
def readX (l:List UInt8):Sum Int (List Hd):=bnd (feedX x0 l) fun x=>bnd (finX {x with t:={x.t with told:=[]} }) fun y=>.inr (x.t.told++y.t.told)
def RR (L:Nat) (w:World) (o:Sum Int (List Hd)) (e:Ending) (w':World):Prop :=
 Below L w w'∧match o with
 | .inl E=>e=.returned (.tuple #[.agg zV,.int .i64 E])
 | .inr es=>∃ y E,e=.returned (.tuple #[.agg y,.int .i64 E])∧(E≠0→y=zV)∧(doneS (runE es)=false→E≠0)∧(doneS (runE es)=true→∃ x:VT es.length,es=fl es.length x∧IsV es.length x∧Sz es.length x∧(E=0↔Win es.length x)∧(E=0→∃ ns ls s f,y=vals (vhd es.length x) ns ls∧L≤s∧KR es.length w' x ns ls s f))
theorem es_own {W:World} {B:Nat} {v:Value} {es:List Hd} (h:W.ownsRow B 76 7 v es.length (ecs es)):ES W v es:=by
 rcases id h.2 with ⟨rfl,e⟩|⟨g,cap,cur,rfl,_⟩
 ·have:es=[]:=List.eq_nil_of_length_eq_zero e
  subst this
  exact ES.nil W
 ·exact ES.row h rfl
def set9 (w:World) (k:Nat) (h:Hd) (ns ls:Value):World:=((((((((w.setCell ⟨k,0,none⟩ (.int .i64 h.kind)).setCell ⟨k,1,none⟩ (.bool h.flag)).setCell ⟨k,2,none⟩ (.bool h.neg)).setCell ⟨k,3,none⟩ (.string h.dig)).setCell ⟨k,4,none⟩ (.int .i64 h.exp)).setCell ⟨k,5,none⟩ (.int .u64 h.bits)).setCell ⟨k,6,none⟩ (.string h.text)).setCell ⟨k,7,none⟩ ns).setCell ⟨k,8,none⟩ ls
theorem bx_set9 {w:World} {k:Nat} {h0:Hd} {n0 l0:Value} (hb:Bx w k h0 n0 l0) (h:Hd) (ns ls:Value):Bx (set9 w k h ns ls) k h ns ls∧But k w (set9 w k h ns ls):=by
 constructor
 ·have h1:=blk_set hb.at_ 0 (.int .i64 h.kind)
  simp [vals] at h1
  have h2:=blk_set h1 1 (.bool h.flag)
  simp at h2
  have h3:=blk_set h2 2 (.bool h.neg)
  simp at h3
  have h4:=blk_set h3 3 (.string h.dig)
  simp at h4
  have h5:=blk_set h4 4 (.int .i64 h.exp)
  simp at h5
  have h6:=blk_set h5 5 (.int .u64 h.bits)
  simp at h6
  have h7:=blk_set h6 6 (.string h.text)
  simp at h7
  have h8:=blk_set h7 7 ns
  simp at h8
  have h9:=blk_set h8 8 ls
  simp at h9
  exact ⟨h9⟩
 ·exact (((((((((But.refl k w).set 0 _).set 1 _).set 2 _).set 3 _).set 4 _).set 5 _).set 6 _).set 7 _).set 8 _
theorem Bx.lt' {w:World} {k:Nat} {h:Hd} {ns ls:Value} (hb:Bx w k h ns ls):k<w.heap.size:=(Array.getElem?_eq_some_iff.1 hb.at_).1
theorem build_p (v:Value) (es:List Hd) (w:World) (hv:ES w v es) (hs:es.length≤199000) (hz:∀ e∈es,EvZ e) (g:Ut.Gu w) :
  Calls Tryz.prog 20 #[v] w fun e w'=>Below w.heap.size w w'∧∃ h a1 m1 d1 a2 m2 d2 E,e=.returned (.tuple #[.agg (vals h (.slice a1 m1 d1) (.slice a2 m2 d2)),.int .i64 E])∧(E≠0→vals h (.slice a1 m1 d1) (.slice a2 m2 d2)=zV)∧(doneS (runE es)=false→E≠0) ∧
   (doneS (runE es)=true→∃ x:VT es.length,es=fl es.length x∧IsV es.length x∧Sz es.length x∧(E=0↔Win es.length x)∧(E=0→h=vhd es.length x∧∃ s f,w.heap.size≤s∧KR es.length w' x (.slice a1 m1 d1) (.slice a2 m2 d2) s f)):=by
 refine (Build_es v es w hv hs hz g).mono ?_
 rintro e w' ⟨hb,y,E,rfl,h1,h2,h3⟩
 refine ⟨hb,?_⟩
 by_cases hE:E=0
 ·have hd:doneS (runE es)=true:=by
   cases hq:doneS (runE es) with
   | true=>rfl
   | false=>exact absurd hE (h2 hq)
  obtain ⟨x,k1,k2,k3,k4,k5⟩:=h3 hd
  obtain ⟨ns,ls,s,f,rfl,k6,k7⟩:=k5 hE
  obtain ⟨a1,m1,d1,a2,m2,d2,rfl,rfl⟩:=k7.rd.shape
  exact ⟨_,a1,m1,d1,a2,m2,d2,E,rfl,fun q=>absurd hE q,fun q=>(by rw [hd] at q;cases q),fun _=>⟨x,k1,k2,k3,k4,fun _=>⟨rfl,s,f,k6,k7⟩⟩⟩
 ·have hy:=h1 hE
  subst hy
  exact ⟨zr 0,none,0,0,none,0,0,E,rfl,fun _=>rfl,h2,fun hd=>by
   obtain ⟨x,k1,k2,k3,k4,k5⟩:=h3 hd
   exact ⟨x,k1,k2,k3,k4,fun q=>absurd q hE⟩⟩
section
variable {W W1 W2 : World} {r : Nat} {g : Tg} {m m1 : Xm} {st : Xs}
theorem Bx.keepX {k:Nat} {h:Hd} {ns ls:Value} (hb:Bx W k h ns ls) (hf:XF g m W W1) (nb:NoX m k):Bx W1 k h ns ls :=
 ⟨hf.keep k _ _ _ hb.at_ (by decide) (by decide) (by decide) (by decide) (by decide) (by decide) (by decide) nb.1 nb.2.1 nb.2.2.1 nb.2.2.2⟩
theorem row_sl {B n:Nat} {v:Value} {xs:List Value} (h:W.ownsRow B 76 7 v n xs):∃ a n c,v=.slice a n c:=by
 rcases h.2 with ⟨e,_⟩|⟨_,_,_,e,_⟩
 ·exact ⟨_,_,_,e⟩
 ·exact ⟨_,_,_,e⟩
theorem own_told {B n:Nat} {v:Value} {xs:List Value} (h:W.ownsRow B 76 7 v n xs) (hm:XM W r g m st) (ht:m.t.told=.slice none 0 0) (hf:XF g m W W1):W1.ownsRow B 76 7 v n xs :=
 own_of h fun q hq _=>by
  obtain ⟨c,f,hc⟩:=own_blk h hq
  rw [hf.keep q c _ f hc (by decide) (by decide) (by decide) (by decide) (by decide) (by decide) (by decide) (ty_ne hc hm.row.mark (by decide)) (ty_ne hc hm.row.held (by decide)) (ty_ne hc hm.row.ref (by decide)) (by rw [ht];intro e;cases e),hc]
set_option maxRecDepth 100000 in
theorem tread_x {l:List UInt8} (h:XM W r g m x0) (ge:Ge (bdX x0 l=true) W) (tr:g.t≤r) (va:Option Addr) (vc:Nat) (hs:SB W g.lo m (.slice va l.length vc) l) (hlen:∀ es,readX l=.inr es→es.length≤199000∧∀ e∈es,EvZ e) :
  Calls Tryz.prog 28 #[.iface 43 (.pointer (some ⟨r,0,none⟩)),.slice va l.length vc] W fun e w'=>RR g.lo W (readX l) e w':=by
 have mthF : ∀ w v, (method 354 43 v "Feed").run Tryz.prog w = .ok (18, v) w := fun w v => by kernel_rfl
 have mthE : ∀ w v, (method 354 43 v "End").run Tryz.prog w = .ok (19, v) w := fun w v => by kernel_rfl
 obtain ⟨W0,hW0⟩:∃ W0,W0=W.alloc (.cells (vals (zr 0) (.slice none 0 0) (.slice none 0 0)) 29):=⟨_,rfl⟩
 have B0:Hid (Below W.heap.size W W0):=by rw [hW0];exact below_al (Below.refl _ _)
 have X0:Hid (Bx W0 W.heap.size (zr 0) (.slice none 0 0) (.slice none 0 0)):=⟨by rw [hW0];exact heap_alloc_last _ _⟩
 have M0:=hide (h.then B0.out)
 have nb:=hide (h.nob (Nat.le_refl W.heap.size))
 have kl0:Hid (W.heap.size<W0.heap.size):=by show _<_;rw [hW0];simp
 have kg:Hid (g.lo≤W.heap.size):=h.low
 have F00:Hid (XF g m W W0):=XF.of B0.out h.low
 have FD:Hid (∀ w,Below W0.heap.size W0 w→Calls Tryz.prog 18 #[.pointer (some ⟨r,0,none⟩),.slice va l.length vc] w fun e w'=>FP w r g m (feedX x0 l) e w'):=fun w hb=>xfeed_x (M0.out.then hb) ((ge.low B0.out (Nat.le_trans h.t.gk.low h.low)).low hb (Nat.le_trans M0.out.t.gk.low M0.out.low)) x0_w ((hs.move F00.out (OMx.refl _ _)).move (XF.of hb M0.out.low) (OMx.refl _ _))
 have her:=hide (fun E (q:feedX x0 l=.inl E)=>feedX_e q)
 have tr':=hide tr
 obtain ⟨k,hk⟩:∃ k,W.heap.size=k:=⟨_,rfl⟩
 rw [hk] at X0 nb kl0 kg
 have lo:=hide M0.out.low
 clear h ge tr hs B0
 simp only [vals,zr] at hW0
 unfold readX at hlen ⊢
 generalize feedX x0 l=o at FD her hlen ⊢
 cases o with
 | inl E =>
  have hE:=her.out E rfl
  have e0:(E != 0)=true:=by rcases hE with rfl|rfl <;> rfl
  clear her hlen hE
  simp only [bnd]
  go_enter Tryz.func28, Tryz.ntmps28
  go_wp2_with (go_at_call 18;refine (FD.out _ (by rw [hW0];repeat (first|exact Below.refl _ _|refine Below.drew ?_|refine below_al ?_))).mono ?_;rintro e w2 ⟨hp1,rfl,_⟩;have F2:Hid (XF g m W0 w2):=(XF.of (by rw [hW0];repeat (first|exact Below.refl _ _|refine Below.drew ?_|refine below_al ?_)) M0.out.low).trans (OMx.refl _ _) hp1;clear hp1;have X2:=hide (X0.out.keepX F2.out nb.out);have x2:=X2.out.cells;simp only [zr] at x2;obtain ⟨c0,c1,c2,c3,c4,c5,c6,c7,c8⟩:=x2;have fz:=X2.out.frz;have kl:=X2.out.lt')
  have Q:=bx_set9 X2.out (zr 0) (.slice none 0 0) (.slice none 0 0)
  obtain ⟨Z,hZ⟩:∃ Z,set9 w2 k (zr 0) (.slice none 0 0) (.slice none 0 0)=Z:=⟨_,rfl⟩
  rw [hZ] at Q
  simp only [set9,zr] at hZ
  rw [hZ]
  obtain ⟨Q1,Q2⟩:=Q
  obtain ⟨y0,y1,y2,y3,y4,y5,y6,y7,y8⟩:=Q1.cells
  simp only [zr] at y0 y1 y2 y3 y4 y5 y6 y7 y8
  refine bodyPost_ret (v:=.tuple #[.agg #[.int .i64 0,.bool false,.bool false,.string ⟨#[]⟩,.int .i64 0,.int .u64 0,.string ⟨#[]⟩,.slice none 0 0,.slice none 0 0],.int .i64 E]) (by simp [results,Tryz.results28,go_sem,y0,y1,y2,y3,y4,y5,y6,y7,y8]) rfl ⟨?_,rfl⟩
  exact (F00.out.trans (OMx.refl _ _) F2.out).below.trans (Q2.below kg.out)
 | inr x =>
  have EN:Hid (∀ w2 m2,XM w2 r g m2 {x with t:={x.t with told:=[]} }→Calls Tryz.prog 19 #[.pointer (some ⟨r,0,none⟩)] w2 fun e w'=>XE w2 r g m2 (finX {x with t:={x.t with told:=[]} }) e w'):=fun w2 m2 h=>xend_x h (by have:=tr'.out;omega)
  have her2:=hide (fun E (q:finX {x with t:={x.t with told:=[]} }=.inl E)=>finX_err q)
  clear her
  simp only [bnd] at hlen ⊢
  generalize finX {x with t:={x.t with told:=[]} }=o2 at EN her2 hlen ⊢
  cases o2 with
  | inl E =>
   have hE:=her2.out E rfl
   have e0:(E != 0)=true:=by rcases hE with rfl|rfl <;> rfl
   clear her2 hlen hE
   simp only
   go_enter Tryz.func28, Tryz.ntmps28
   go_wp2_with (first|(go_at_call 18;refine (FD.out _ (by rw [hW0];repeat (first|exact Below.refl _ _|refine Below.drew ?_|refine below_al ?_))).mono ?_;rintro e w2 ⟨hp1,m2,v2,he2,hp2,hp3,hp4,hp5,_⟩;obtain ⟨va2,vn2,vc2,hv2⟩:=row_sl hp5;subst he2;subst hv2;have F2:Hid (XF g m W0 w2):=(XF.of (by rw [hW0];repeat (first|exact Below.refl _ _|refine Below.drew ?_|refine below_al ?_)) M0.out.low).trans (OMx.refl _ _) hp1;have M2:=hide hp2;have O2:Hid (OMx W0 m m2):=(OMx.refl _ _).trans hp3 (show Below W0.heap.size W0 _ from (by rw [hW0];repeat (first|exact Below.refl _ _|refine Below.drew ?_|refine below_al ?_))).size;have T2:=hide hp4;have V2:=hide hp5;have X2:=hide (X0.out.keepX F2.out nb.out);have nb2:=hide (nb.out.om O2.out kl0.out);clear hp1 hp2 hp3 hp4 hp5)|(go_at_call 19;refine (EN.out _ _ M2.out).mono ?_;rintro e w3 ⟨hp1,_,rfl,_⟩;have F3:=hide hp1;have X3:=hide (X2.out.keepX F3.out nb2.out);have x3:=X3.out.cells;simp only [zr] at x3;obtain ⟨c0,c1,c2,c3,c4,c5,c6,c7,c8⟩:=x3;have fz:=X3.out.frz;have kl:=X3.out.lt';clear hp1))
   have Q:=bx_set9 X3.out (zr 0) (.slice none 0 0) (.slice none 0 0)
   obtain ⟨Z,hZ⟩:∃ Z,set9 w3 k (zr 0) (.slice none 0 0) (.slice none 0 0)=Z:=⟨_,rfl⟩
   rw [hZ] at Q
   simp only [set9,zr] at hZ
   rw [hZ]
   obtain ⟨Q1,Q2⟩:=Q
   obtain ⟨y0,y1,y2,y3,y4,y5,y6,y7,y8⟩:=Q1.cells
   simp only [zr] at y0 y1 y2 y3 y4 y5 y6 y7 y8
   refine bodyPost_ret (v:=.tuple #[.agg #[.int .i64 0,.bool false,.bool false,.string ⟨#[]⟩,.int .i64 0,.int .u64 0,.string ⟨#[]⟩,.slice none 0 0,.slice none 0 0],.int .i64 E]) (by simp [results,Tryz.results28,go_sem,y0,y1,y2,y3,y4,y5,y6,y7,y8]) rfl ⟨?_,rfl⟩
   exact ((F00.out.trans (OMx.refl _ _) F2.out).below.trans F3.out.below).trans (Q2.below kg.out)
  | inr y =>
   obtain ⟨hl1,hl2⟩:=hlen _ rfl
   have BU:=hide (fun w4 v (hv:ES w4 v (x.t.told++y.t.told)) (g:Ut.Gu w4)=>build_p v (x.t.told++y.t.told) w4 hv hl1 hl2 g)
   have hl1':=hide hl1
   clear her2 hlen hl1 hl2
   simp only
   go_enter Tryz.func28, Tryz.ntmps28
   go_wp2_with (first|(go_at_call 18;refine (FD.out _ (by rw [hW0];repeat (first|exact Below.refl _ _|refine Below.drew ?_|refine below_al ?_))).mono ?_;rintro e w2 ⟨hp1,m2,v2,he2,hp2,hp3,hp4,hp5,_⟩;obtain ⟨va2,vn2,vc2,hv2⟩:=row_sl hp5;subst he2;subst hv2;have F2:Hid (XF g m W0 w2):=(XF.of (by rw [hW0];repeat (first|exact Below.refl _ _|refine Below.drew ?_|refine below_al ?_)) M0.out.low).trans (OMx.refl _ _) hp1;have M2:=hide hp2;have O2:Hid (OMx W0 m m2):=(OMx.refl _ _).trans hp3 (show Below W0.heap.size W0 _ from (by rw [hW0];repeat (first|exact Below.refl _ _|refine Below.drew ?_|refine below_al ?_))).size;have T2:=hide hp4;have V2:=hide hp5;have X2:=hide (X0.out.keepX F2.out nb.out);have nb2:=hide (nb.out.om O2.out kl0.out);clear hp1 hp2 hp3 hp4 hp5)|(go_at_call 19;refine (EN.out _ _ M2.out).mono ?_;rintro e w3 ⟨hp1,_,v3,he3,_,hp3,_⟩;obtain ⟨va3,vn3,vc3,hv3⟩:=row_sl hp3;subst he3;subst hv3;have F3:=hide hp1;have X3:=hide (X2.out.keepX F3.out nb2.out);have V3:=hide hp3;have U3:=hide (own_told V2.out M2.out T2.out hp1);have GU:Hid (Ut.Gu w3):=Gu.low M2.out.t.gu hp1.below M2.out.t.gk.low;clear hp1 hp3)|(at_builtin;refine Sto.out ?_))
   refine Sto.mk ?_
   refine app_ee rfl (.tmp 28) (.tmp 29) rfl (g.t + 1) _ x.t.told rfl U3.out _ (g.t + 1) y.t.told rfl V3.out (by have:=hl1'.out;rw [List.length_append] at this;omega) (by have:=M2.out.t.lt;have:=F3.out.below.size;omega) ?_
   intro v' w4 ho hb4 hq4
   have es4:ES w4 v' (x.t.told++y.t.told):=es_own (by have:=ho.out;rw [←List.length_append] at this;exact this)
   have lo4:Hid (g.lo≤g.t + 1):=by show _≤_;have:=M2.out.t.gk.loR;omega
   have B4:Hid (Below g.lo W w4):=(((F00.out.trans (OMx.refl _ _) F2.out).below.trans F3.out.below)).trans (hb4.out.mono lo4.out)
   have k3:k<w3.heap.size:=X3.out.lt'
   have X4:Hid (Bx w4 k (zr 0) (.slice none 0 0) (.slice none 0 0)):=⟨(hq4.out k k3 (fun e=>by
    obtain ⟨c,f,hc⟩:=own_blk U3.out e
    rw [X3.out.at_] at hc
    exact absurd (cells_ty hc) (by decide))).trans X3.out.at_⟩
   have BB:=hide (BU.out w4 v' es4 (Gu.low GU.out (hb4.out.mono lo4.out) M2.out.t.gk.low))
   obtain ⟨a4,c4',hv4,_⟩:=es4
   obtain ⟨nn,hnn⟩:∃ nn,(x.t.told++y.t.told).length=nn:=⟨_,rfl⟩
   rw [hnn] at hv4
   subst hv4
   clear hnn
   have k4:k<w4.heap.size:=X4.out.lt'
   have gw4:Hid (g.lo≤w4.heap.size):=by show _≤_;have:=kg.out;omega
   clear BU ho hb4 hq4 FD EN
   go_wp2_with (go_at_call 20;refine Sto.out ?_)
   refine Sto.mk (BB.out.mono ?_)
   rintro e w5 ⟨hp1,h5,a1,n1,d1,a2,n2,d2,E5,rfl,hp2,hp3,hp4⟩
   simp only [vals]
   have B5:=hide hp1
   have P2:=hide hp2
   have P3:=hide hp3
   have P4:=hide hp4
   clear hp1 hp2 hp3 hp4
   have X5:Hid (Bx w5 k (zr 0) (.slice none 0 0) (.slice none 0 0)):=⟨(B5.out.block k k4).trans X4.out.at_⟩
   have x5:=X5.out.cells
   simp only [zr] at x5
   obtain ⟨c0,c1,c2,c3,c4,c5,c6,c7,c8⟩:=x5
   have fz:=X5.out.frz
   have kl:=X5.out.lt'
   go_wp2_with fail
   have Q:=bx_set9 X5.out h5 (.slice a1 n1 d1) (.slice a2 n2 d2)
   obtain ⟨Z,hZ⟩:∃ Z,set9 w5 k h5 (.slice a1 n1 d1) (.slice a2 n2 d2)=Z:=⟨_,rfl⟩
   rw [hZ] at Q
   simp only [set9] at hZ
   rw [hZ]
   obtain ⟨Q1,Q2⟩:=Q
   obtain ⟨y0,y1,y2,y3,y4,y5,y6,y7,y8⟩:=Q1.cells
   refine bodyPost_ret (v:=.tuple #[.agg #[.int .i64 h5.kind,.bool h5.flag,.bool h5.neg,.string h5.dig,.int .i64 h5.exp,.int .u64 h5.bits,.string h5.text,.slice a1 n1 d1,.slice a2 n2 d2],.int .i64 E5]) (by simp [results,Tryz.results28,go_sem,y0,y1,y2,y3,y4,y5,y6,y7,y8]) rfl ⟨?_,vals h5 (.slice a1 n1 d1) (.slice a2 n2 d2),E5,rfl,P2.out,P3.out,fun hd=>?_⟩
   ·exact (B4.out.trans (B5.out.mono gw4.out)).trans (Q2.below kg.out)
   ·obtain ⟨z,q1,q2,q3,q4,q5⟩:=P4.out hd
    refine ⟨z,q1,q2,q3,q4,fun hE=>?_⟩
    obtain ⟨rfl,s,f,q6,q7⟩:=q5 hE
    have hw4:=gw4.out
    refine ⟨_,_,s,f,rfl,by omega,q7.move (by rw [Q2.size];exact q7.2.1) fun j h1 h2=>Q2.blk j (by omega)⟩
end
structure SL (W:World) (L:Nat) (v:Value) (l:List UInt8):Prop where
 shape:∃ a c,v=.slice a l.length c
 len:l.length≤281474976710656
 rd:0<l.length→∃ b o c,v=.slice (some ⟨b,o,none⟩) l.length c∧(∀ j (h:j<l.length),W.cell? ⟨b,o + j,none⟩=some (.int .u8 l[j].toNat))∧b<L
theorem SL.sb {W W1:World} {L:Nat} {v:Value} {l:List UInt8} (h:SL W L v l) (hb:Below L W W1) (m:Xm):SB W1 L m v l :=
 ⟨h.shape,h.len,fun hl=>by
  obtain ⟨b,o,c,h1,h2,h3⟩:=h.rd hl
  exact ⟨b,o,c,h1,fun j hj=>by rw [←h2 j hj];exact World.cell?_of_block (w:=W) (hb.block b h3),Or.inl h3⟩⟩
theorem RR.shape {L:Nat} {w w':World} {o:Sum Int (List Hd)} {e:Ending} (h:RR L w o e w'):∃ hd a1 n1 d1 a2 n2 d2 E,e=.returned (.tuple #[.agg (vals hd (.slice a1 n1 d1) (.slice a2 n2 d2)),.int .i64 E]):=by
 obtain ⟨_,h2⟩:=h
 cases o with
 | inl E=>exact ⟨zr 0,none,0,0,none,0,0,E,h2⟩
 | inr es =>
  obtain ⟨y,E,e1,e2,e3,e4⟩:=h2
  by_cases hE:E=0
  ·have hd:doneS (runE es)=true:=by
    cases hq:doneS (runE es) with
    | true=>rfl
    | false=>exact absurd hE (e3 hq)
   obtain ⟨x,_,_,_,_,k5⟩:=e4 hd
   obtain ⟨ns,ls,s,f,rfl,k6,k7⟩:=k5 hE
   obtain ⟨a1,m1,d1,a2,m2,d2,rfl,rfl⟩:=k7.rd.shape
   exact ⟨_,_,_,_,_,_,_,_,e1⟩
  ·rw [e2 hE] at e1
   exact ⟨zr 0,none,0,0,none,0,0,E,e1⟩
theorem RR.box {w w0 w2 Z:World} {o:Sum Int (List Hd)} {e:Ending} {k:Nat} (h:RR w0.heap.size w0 o e w2) (h0:Below w.heap.size w w0) (hk:w.heap.size=k) (hz:k<w0.heap.size) (hb:But k w2 Z):RR w.heap.size w o e Z:=by
 obtain ⟨h1,h2⟩:=h
 refine ⟨(below_then h0 h1).trans (hb.below (Nat.le_of_eq hk)),?_⟩
 cases o with
 | inl E=>exact h2
 | inr es =>
  obtain ⟨y,E,e1,e2,e3,e4⟩:=h2
  refine ⟨y,E,e1,e2,e3,fun hd=>?_⟩
  obtain ⟨x,k1,k2,k3,k4,k5⟩:=e4 hd
  refine ⟨x,k1,k2,k3,k4,fun hE=>?_⟩
  obtain ⟨ns,ls,s,f,e5,k6,k7⟩:=k5 hE
  exact ⟨ns,ls,s,f,e5,by omega,k7.move (by rw [hb.size];exact k7.2.1) fun j h1 h2=>hb.blk j (by omega)⟩
set_option maxRecDepth 100000 in
theorem xread_x (w:World) (va:Option Addr) (vc:Nat) (l:List UInt8) (hs:SL w w.heap.size (.slice va l.length vc) l) (gu:Ut.Gu w) (ge:Ge (bdX x0 l=true) w) (h8:8≤w.heap.size) (hlen:∀ es,readX l=.inr es→es.length≤199000∧∀ e∈es,EvZ e) :
  Calls Tryz.prog 15 #[.slice va l.length vc] w fun e w'=>RR w.heap.size w (readX l) e w':=by
 obtain ⟨w0,hw0⟩:∃ w0,w0=w.alloc (.cells (vals (zr 0) (.slice none 0 0) (.slice none 0 0)) 29):=⟨_,rfl⟩
 have B0:Hid (Below w.heap.size w w0):=by rw [hw0];exact below_al (Below.refl _ _)
 have z0:Hid (w.heap.size<w0.heap.size):=by show _<_;rw [hw0];simp
 have X0:Hid (Bx w0 w.heap.size (zr 0) (.slice none 0 0) (.slice none 0 0)):=⟨by rw [hw0];exact heap_alloc_last _ _⟩
 have hs0:SL w0 w0.heap.size (.slice va l.length vc) l:=⟨hs.shape,hs.len,fun hl=>by
  obtain ⟨b,o,c,h1,h2,h3⟩:=hs.rd hl
  exact ⟨b,o,c,h1,fun j hj=>by rw [←h2 j hj];exact World.cell?_of_block (w:=w) (B0.out.block b h3),Nat.lt_trans h3 z0.out⟩⟩
 have N:=hide (new_x w0 (gu.below B0.out) (Nat.le_trans h8 B0.out.size))
 have ge0:=ge.low B0.out h8
 have h80:8≤w0.heap.size:=Nat.le_trans h8 B0.out.size
 obtain ⟨k,hk⟩:∃ k,w.heap.size=k:=⟨_,rfl⟩
 have hk':=hide hk
 rw [hk] at X0
 have RD:Hid (∀ w1 r g m,XM w1 r g m x0→Below w0.heap.size w0 w1→g.lo=w0.heap.size→g.t≤r→Calls Tryz.prog 28 #[.iface 43 (.pointer (some ⟨r,0,none⟩)),.slice va l.length vc] w1 fun e w'=>RR w0.heap.size w0 (readX l) e w'∧∃ hd a1 n1 d1 a2 n2 d2 E,e=.returned (.tuple #[.agg (vals hd (.slice a1 n1 d1) (.slice a2 n2 d2)),.int .i64 E])):=fun w1 r g m h hb hg tr=>by
  have:=tread_x h (ge0.low hb h80) tr va vc (by rw [hg];exact hs0.sb hb m) hlen
  rw [hg] at this
  refine this.mono ?_
  intro e w' hp
  exact ⟨⟨hb.trans hp.1,hp.2⟩,RR.shape hp⟩
 clear hs gu ge h8 hlen hs0 ge0 h80
 simp only [vals,zr] at hw0
 rw [hw0] at N
 go_enter Tryz.func15, Tryz.ntmps15
 go_wp2_with (first
  | (go_at_call 16;refine N.out.mono ?_;rintro e w1 ⟨r,g,m,rfl,hp1,hp2,hp3,_,_,_,_,hp4⟩;rw [←hw0] at hp2 hp3;have M1:=hide hp1;have B1:=hide hp2;have G1:=hide hp3;have T1:=hide hp4;clear hp1 hp2 hp3 hp4)
  | (go_at_call 28;refine (RD.out _ _ _ _ M1.out B1.out G1.out T1.out).mono ?_;rintro e w2 ⟨hp,h5,a1,n1,d1,a2,n2,d2,E5,rfl⟩;have K:=hide hp;have X2:Hid (Bx w2 k (zr 0) (.slice none 0 0) (.slice none 0 0)):=⟨(hp.1.block k (by have:=z0.out;have:=hk'.out;omega)).trans X0.out.at_⟩;have x2:=X2.out.cells;simp only [zr] at x2;obtain ⟨c0,c1,c2,c3,c4,c5,c6,c7,c8⟩:=x2;have fz:=X2.out.frz;have kl:=X2.out.lt';simp only [vals];clear hp))
 have Q:=bx_set9 X2.out h5 (.slice a1 n1 d1) (.slice a2 n2 d2)
 obtain ⟨Z,hZ⟩:∃ Z,set9 w2 k h5 (.slice a1 n1 d1) (.slice a2 n2 d2)=Z:=⟨_,rfl⟩
 rw [hZ] at Q
 simp only [set9] at hZ
 rw [hZ]
 obtain ⟨Q1,Q2⟩:=Q
 obtain ⟨y0,y1,y2,y3,y4,y5,y6,y7,y8⟩:=Q1.cells
 exact bodyPost_ret (v:=.tuple #[.agg #[.int .i64 h5.kind,.bool h5.flag,.bool h5.neg,.string h5.dig,.int .i64 h5.exp,.int .u64 h5.bits,.string h5.text,.slice a1 n1 d1,.slice a2 n2 d2],.int .i64 E5]) (by simp [results,Tryz.results15,go_sem,y0,y1,y2,y3,y4,y5,y6,y7,y8]) rfl (K.out.box B0.out hk'.out (by have:=z0.out;have:=hk'.out;omega) Q2)
def xexA:List UInt8:=[32,60,108,105,115,116,62,32,60,110,117,108,108,47,62,32,60,116,101,120,116,62,32,97,38,35,120,52,49,59,62,60,47,116,101,120,116,62,60,47,108,105,115,116,62,32]
def xexB:List UInt8:=[60,110,117,108,108,32,47,62]
def xexE:List Hd:=[zr 7,zr 1,{zr 5 with text:=⟨#[32,97,65,62]⟩},zr 11]
set_option maxRecDepth 100000 in
theorem xexA_rd:readX xexA=.inr xexE:=by kernel_rfl
set_option maxRecDepth 100000 in
theorem xexB_rd:readX xexB=.inl 100:=by kernel_rfl
set_option maxRecDepth 100000 in
theorem xexA_bd:bdX x0 xexA=false:=by kernel_rfl
set_option maxRecDepth 100000 in
theorem xexB_bd:bdX x0 xexB=false:=by kernel_rfl
theorem ge_no {l:List UInt8} {w:World} (h:bdX x0 l=false):Ge (bdX x0 l=true) w:=fun u=>by rw [h] at u;cases u
def xaT:VT 1:=({zr 5 with text:=⟨#[97,60,10]⟩},[])
def xl1:VT 1:=(zr 7,[])
def xgT:VT 2:=({zr 9 with text:=⟨#[116]⟩},[xl1])
def xv1:VT 3:=(zr 1,[])
def xv2:VT 3:=({zr 5 with text:=⟨#[32,97,65,62]⟩},[])
def xvT:VT 4:=(zr 7,[xv1,xv2])
theorem xa_isv:IsV 1 xaT:=⟨⟨(show (1:Int)≤5 by decide),(show (5:Int)≤9 by decide),rfl,Or.inr rfl⟩,⟨fun h=>(by cases h),fun _=>by decide,fun h=>(by cases h),fun h=>(by cases h)⟩,fun y hy=>(by cases hy)⟩
theorem xa_sht:Sht 1 xaT:=⟨(show (3:Int)≤4096 by decide),(show 0≤256 by decide),fun s hs=>(by cases hs),fun y hy=>(by cases hy)⟩
theorem xa_chk:Chk 1 xaT 0:=Or.inr (Or.inr ⟨rfl,xa_isv,xa_sht,(show 1≤16 by decide),(show 1≤4096 by decide)⟩)
theorem xa_sz:Sz 1 xaT:=⟨by decide,by decide,by decide,fun s hs=>(by cases hs),fun y hy=>(by cases hy)⟩
theorem xa_rg:Rg 1 xaT:=⟨by decide,by decide,fun y hy=>(by cases hy)⟩
theorem xl_isv:IsV 1 xl1:=⟨⟨(show (1:Int)≤7 by decide),(show (7:Int)≤9 by decide),rfl,Or.inl (show (7:Int)≤7 by decide)⟩,⟨fun h=>(by cases h),fun h=>(by cases h),fun h=>(by cases h),fun h=>(by cases h)⟩,fun y hy=>(by cases hy)⟩
theorem xl_sht:Sht 1 xl1:=⟨(show (0:Int)≤4096 by decide),(show 0≤256 by decide),fun s hs=>(by cases hs),fun y hy=>(by cases hy)⟩
theorem xl_sz:Sz 1 xl1:=⟨by decide,by decide,by decide,fun s hs=>(by cases hs),fun y hy=>(by cases hy)⟩
theorem xl_rg:Rg 1 xl1:=⟨by decide,by decide,fun y hy=>(by cases hy)⟩
theorem xg_isv:IsV 2 xgT:=⟨⟨(show (1:Int)≤9 by decide),(show (9:Int)≤9 by decide),rfl,Or.inl (show (7:Int)≤9 by decide)⟩,⟨fun h=>(by cases h),fun h=>(by cases h),fun h=>(by cases h),fun _=>by decide⟩,ex_one xl_isv⟩
theorem xg_sht:Sht 2 xgT:=⟨(show (1:Int)≤64 by decide),(show 1≤256 by decide),fun s hs=>(by cases hs),ex_one xl_sht⟩
theorem xg_chk:Chk 2 xgT 0:=Or.inr (Or.inr ⟨rfl,xg_isv,xg_sht,(show 2≤16 by decide),(show 2≤4096 by decide)⟩)
theorem xg_sz:Sz 2 xgT:=⟨by decide,by decide,by decide,fun s hs=>(by cases hs),ex_one xl_sz⟩
theorem xg_rg:Rg 2 xgT:=⟨by decide,by decide,ex_one xl_rg⟩
theorem xv1_isv:IsV 3 xv1:=⟨⟨(show (1:Int)≤1 by decide),(show (1:Int)≤9 by decide),rfl,Or.inr rfl⟩,⟨fun h=>(by cases h),fun h=>(by cases h),fun h=>(by cases h),fun h=>(by cases h)⟩,fun y hy=>(by cases hy)⟩
theorem xv2_isv:IsV 3 xv2:=⟨⟨(show (1:Int)≤5 by decide),(show (5:Int)≤9 by decide),rfl,Or.inr rfl⟩,⟨fun h=>(by cases h),fun _=>by decide,fun h=>(by cases h),fun h=>(by cases h)⟩,fun y hy=>(by cases hy)⟩
theorem xv_isv:IsV 4 xvT:=⟨⟨(show (1:Int)≤7 by decide),(show (7:Int)≤9 by decide),rfl,Or.inl (show (7:Int)≤7 by decide)⟩,⟨fun h=>(by cases h),fun h=>(by cases h),fun h=>(by cases h),fun h=>(by cases h)⟩,ex_mem xv1_isv xv2_isv⟩
theorem xv_sht1:Sht 3 xv1:=⟨(show (0:Int)≤4096 by decide),(show 0≤256 by decide),fun s hs=>(by cases hs),fun y hy=>(by cases hy)⟩
theorem xv_sht2:Sht 3 xv2:=⟨(show (4:Int)≤4096 by decide),(show 0≤256 by decide),fun s hs=>(by cases hs),fun y hy=>(by cases hy)⟩
theorem xv_win:Win 4 xvT:=⟨⟨(show (0:Int)≤4096 by decide),(show 2≤256 by decide),fun s hs=>(by cases hs),ex_mem xv_sht1 xv_sht2⟩,(show 2≤16 by decide),(show 3≤4096 by decide)⟩
theorem xv_fl:xexE=fl 4 xvT:=rfl
theorem xv_done:doneS (runE xexE)=true:=by rw [xv_fl,runE_fl 4 xvT xv_isv];rfl
theorem xexE_z:∀ e∈xexE,EvZ e:=by
 intro e he
 simp only [xexE,List.mem_cons,List.not_mem_nil,or_false] at he
 rcases he with rfl|rfl|rfl|rfl <;> exact ⟨by decide,by decide,rfl⟩
set_option maxRecDepth 100000 in
theorem xa_tx:xtx 1 xaT=[60,116,101,120,116,62,97,38,108,116,59,38,35,120,97,59,60,47,116,101,120,116,62]:=by kernel_rfl
set_option maxRecDepth 100000 in
theorem xg_tx:xtx 2 xgT=[60,116,97,103,32,110,97,109,101,61,34,116,34,62,60,108,105,115,116,62,60,47,108,105,115,116,62,60,47,116,97,103,62]:=by kernel_rfl
theorem rd_xg {W:World} {b:Nat} (hb:W.heap[b]?=some (.cells (vals (zr 7) (.slice none 0 0) (.slice none 0 0)) 29 (0,0))):RD 2 W xgT (.slice none 0 0) (.slice (some ⟨b,0,none⟩) 1 1):=by
 have lb:=(Array.getElem?_eq_some_iff.1 hb).1
 refine ⟨Or.inl ⟨rfl,rfl⟩,Or.inr ⟨b,0,1,none,rfl,Nat.le_refl _,by decide,fun _=>⟨rfl,lb⟩,fun i hi=>?_⟩⟩
 have hi0:i=0:=by have:i<1:=hi;omega
 subst hi0
 exact ⟨.slice none 0 0,.slice none 0 0,range_block hb [] _ [] rfl,⟨Or.inl ⟨rfl,rfl⟩,Or.inl ⟨rfl,rfl⟩⟩⟩
theorem xwr_a (w:World) (gu:Ut.Gu w) (ht:Tab w.heap.size w) (gz:Gz w) (W:World) (hb:Below w.heap.size w W) :
  Calls Tryz.prog 10 #[.agg (vals (vhd 1 xaT) (.slice none 0 0) (.slice none 0 0))] W fun e w'=>∃ p m c,e=.returned (.tuple #[.slice p m c,.int .i64 0])∧Below W.heap.size W w'∧Own w' W.heap.size (.slice p m c) (xtx 1 xaT) :=
 (xwrite_any 1 xaT _ _ W ⟨⟨Or.inl ⟨rfl,rfl⟩,Or.inl ⟨rfl,rfl⟩⟩,xa_sz,(show 1≤200000 by decide)⟩ xa_rg (gu.below hb) (Tab.up (ht.on hb) hb.size) (gz.low hb gz.low8) 0 xa_chk).mono (by
  rintro e w' ⟨h1,_,h3⟩
  obtain ⟨p,m,c,h4,h5⟩:=(h3 rfl).1 (by rw [xa_tx];decide)
  exact ⟨p,m,c,h4,h1,h5⟩)
theorem xwr_g (w:World) (gu:Ut.Gu w) (ht:Tab w.heap.size w) (gz:Gz w) (W:World) (hb:Below w.heap.size w W) {b:Nat} (hb2:W.heap[b]?=some (.cells (vals (zr 7) (.slice none 0 0) (.slice none 0 0)) 29 (0,0))) :
  Calls Tryz.prog 10 #[.agg (vals (vhd 2 xgT) (.slice none 0 0) (.slice (some ⟨b,0,none⟩) 1 1))] W fun e w'=>∃ p m c,e=.returned (.tuple #[.slice p m c,.int .i64 0])∧Below W.heap.size W w'∧Own w' W.heap.size (.slice p m c) (xtx 2 xgT) :=
 (xwrite_any 2 xgT _ _ W ⟨rd_xg hb2,xg_sz,(show 2≤200000 by decide)⟩ xg_rg (gu.below hb) (Tab.up (ht.on hb) hb.size) (gz.low hb gz.low8) 0 xg_chk).mono (by
  rintro e w' ⟨h1,_,h3⟩
  obtain ⟨p,m,c,h4,h5⟩:=(h3 rfl).1 (by rw [xg_tx];decide)
  exact ⟨p,m,c,h4,h1,h5⟩)
def cb (l:List UInt8):Array Value:=(l.map fun c=>Value.int .u8 (c.toNat:Int)).toArray
theorem xrd_const (w:World) (gu:Ut.Gu w) (h8:8≤w.heap.size) (W:World) (hb:Below w.heap.size w W) (l:List UInt8) (hbd:bdX x0 l=false) (fr:Nat×Nat) (hl:l.length≤100000) (hlen:∀ es,readX l=.inr es→es.length≤199000∧∀ e∈es,EvZ e) :
  Calls Tryz.prog 15 #[.slice (some ⟨W.heap.size,0,none⟩) l.length l.length] (W.alloc (.cells (cb l) 5 fr)) fun e w'=>RR (W.alloc (.cells (cb l) 5 fr)).heap.size (W.alloc (.cells (cb l) 5 fr)) (readX l) e w':=by
 have hB:Below w.heap.size w (W.alloc (.cells (cb l) 5 fr)):=below_then hb (below_al (Below.refl _ _))
 refine xread_x _ _ _ l ⟨⟨_,_,rfl⟩,by omega,fun _=>⟨W.heap.size,0,l.length,rfl,fun j hj=>?_,by simp⟩⟩ (gu.below hB) (ge_no hbd) (Nat.le_trans h8 hB.size) hlen
 unfold World.cell?
 rw [heap_alloc_last]
 simp [cb,hj]
theorem xrd_a (w:World) (gu:Ut.Gu w) (h8:8≤w.heap.size) (W:World) (hb:Below w.heap.size w W) (fr:Nat×Nat) :
  Calls Tryz.prog 15 #[.slice (some ⟨W.heap.size,0,none⟩) xexA.length xexA.length] (W.alloc (.cells (cb xexA) 5 fr)) fun e w'=>∃ a1 m1 d1 b o c s f,e=.returned (.tuple #[.agg (vals (zr 7) (.slice a1 m1 d1) (.slice (some ⟨b,o,none⟩) 2 c)),.int .i64 0])∧Below W.heap.size W w'∧KR 4 w' xvT (.slice a1 m1 d1) (.slice (some ⟨b,o,none⟩) 2 c) s f:=by
 refine (xrd_const w gu h8 W hb xexA xexA_bd fr (by decide) (fun es h=>by rw [xexA_rd] at h;cases h;exact ⟨by decide,xexE_z⟩)).mono ?_
 intro e w' hp
 rw [xexA_rd] at hp
 obtain ⟨h1,y,E,rfl,_,_,h4⟩:=hp
 obtain ⟨x,k1,k2,_,k4,k5⟩:=h4 xv_done
 have hx:x=xvT:=(fl_inj 4 x xvT k2 xv_isv [] [] (by rw [List.append_nil,List.append_nil,←xv_fl];exact k1.symm)).1
 subst hx
 have hE:E=0:=k4.2 xv_win
 obtain ⟨ns,ls,s,f,rfl,_,k7⟩:=k5 hE
 obtain ⟨r1,r2⟩:=k7.rd
 obtain ⟨a1,m1,d1,a2,m2,d2,rfl,rfl⟩:=k7.rd.shape
 rcases r2 with ⟨_,h0⟩|⟨b,o,c,sp,hls,_,_,hsp,_⟩
 ·cases h0
 ·obtain ⟨rfl,_⟩:=hsp (show 0<2 by decide)
  rw [hls] at k7 ⊢
  subst hE
  exact ⟨a1,m1,d1,b,o,c,s,f,rfl,below_then (below_al (Below.refl _ _)) h1,k7⟩
theorem xrd_e (w:World) (gu:Ut.Gu w) (h8:8≤w.heap.size) (W:World) (hb:Below w.heap.size w W) (fr:Nat×Nat) (l:List UInt8) (hbd:bdX x0 l=false) (hl:l.length≤100000) (E:Int) (hE:readX l=.inl E) :
  Calls Tryz.prog 15 #[.slice (some ⟨W.heap.size,0,none⟩) l.length l.length] (W.alloc (.cells (cb l) 5 fr)) fun e w'=>e=.returned (.tuple #[.agg zV,.int .i64 E])∧Below W.heap.size W w':=by
 refine (xrd_const w gu h8 W hb l hbd fr hl (fun es h=>by rw [hE] at h;cases h)).mono ?_
 intro e w' hp
 rw [hE] at hp
 exact ⟨hp.2,below_then (below_al (Below.refl _ _)) hp.1⟩
set_option maxRecDepth 100000 in
theorem xawake_any (w:World) (gu:Ut.Gu w) (ht:Tab w.heap.size w) (gz:Gz w):Calls Tryz.prog 12 #[] w fun e w'=>e=.returned (.bool true)∧Below w.heap.size w w':=by
 have h8:=gz.low8
 have hcs:∀ (w:World) (C:Array Value) (n c:Nat),(convert 32 32 (.slice (some ⟨w.heap.size,0,none⟩) n c)).run Tryz.prog (w.alloc (.cells C 5))=.ok (.slice (some ⟨w.heap.size,0,none⟩) n c) (w.alloc (.cells C 5 (C.size,C.size + 1))):=fun w C n c=>Lib.run_convert_bytes_const w 32 5 C n c Tryz.underlying32 Tryz.underlying5
 have hcs2:∀ (w:World) (o:Obj) (C:Array Value) (n c:Nat),(convert 32 32 (.slice (some ⟨w.heap.size + 1,0,none⟩) n c)).run Tryz.prog ((w.alloc o).alloc (.cells C 5))=.ok (.slice (some ⟨w.heap.size + 1,0,none⟩) n c) ((w.alloc o).alloc (.cells C 5 (C.size,C.size + 1))):=fun w o C n c=>by have:=hcs (w.alloc o) C n c;rw [World.size_alloc] at this;exact this
 have RA:=hide (fun W hb=>xrd_a w gu h8 W hb (46,47))
 have RB:=hide (fun W hb=>xrd_e w gu h8 W hb (8,9) xexB xexB_bd (by decide) 100 xexB_rd)
 rw [show cb xexA=#[.int .u8 32,.int .u8 60,.int .u8 108,.int .u8 105,.int .u8 115,.int .u8 116,.int .u8 62,.int .u8 32,.int .u8 60,.int .u8 110,.int .u8 117,.int .u8 108,.int .u8 108,.int .u8 47,.int .u8 62,.int .u8 32,.int .u8 60,.int .u8 116,.int .u8 101,.int .u8 120,.int .u8 116,.int .u8 62,.int .u8 32,.int .u8 97,.int .u8 38,.int .u8 35,.int .u8 120,.int .u8 52,.int .u8 49,.int .u8 59,.int .u8 62,.int .u8 60,.int .u8 47,.int .u8 116,.int .u8 101,.int .u8 120,.int .u8 116,.int .u8 62,.int .u8 60,.int .u8 47,.int .u8 108,.int .u8 105,.int .u8 115,.int .u8 116,.int .u8 62,.int .u8 32] from rfl,show xexA.length=46 from rfl] at RA
 rw [show cb xexB=#[.int .u8 60,.int .u8 110,.int .u8 117,.int .u8 108,.int .u8 108,.int .u8 32,.int .u8 47,.int .u8 62] from rfl,show xexB.length=8 from rfl] at RB
 have W1:=hide (xwr_a w gu ht gz)
 have W2:=hide (xwr_g w gu ht gz)
 simp only [vals,xaT,xgT,vhd,zr] at W1 W2
 simp only [vals,zr] at RA
 simp only [zV] at RB
 go_enter Tryz.func12, Tryz.ntmps12
 go_wp2_with (go_at_call 10;refine Sto.out ?_)
 refine Sto.mk ((W1.out _ (Below.refl _ _)).mono ?_)
 rintro e v1 ⟨p1,m1,c1,rfl,B1',ho1⟩
 have B1:Hid (Below w.heap.size w v1):=B1'
 have O1:Hid (∃ B,Own v1 B (.slice p1 m1 c1) (xtx 1 xaT)):=⟨_,ho1⟩
 clear B1' ho1 W1
 go_wp2_with (go_at_call 10;refine Sto.out ?_)
 refine Sto.mk ((W2.out _ (below_then B1.out (below_al (Below.refl _ _))) (b:=v1.heap.size) (heap_alloc_last _ _)).mono ?_)
 rintro e v2 ⟨p2,m2,c2,rfl,hb2,ho2⟩
 have D2:Hid (Below v1.heap.size v1 v2):=below_then (below_al (Below.refl _ _)) hb2
 have B2:Hid (Below w.heap.size w v2):=below_then B1.out D2.out
 have O1':Hid (∃ B,Own v2 B (.slice p1 m1 c1) (xtx 1 xaT)):=by
  obtain ⟨B,h⟩:=O1.out
  exact ⟨B,own_of h fun k _ hk=>D2.out.block k hk⟩
 have O2:Hid (∃ B,Own v2 B (.slice p2 m2 c2) (xtx 2 xgT)):=⟨_,ho2⟩
 clear hb2 ho2 W2 O1 D2
 go_wp2_with (go_at_call 15;refine Sto.out ?_)
 refine Sto.mk ((RA.out _ B2.out).mono ?_)
 rintro e v3 ⟨a3,m3,d3,b3,o3,c3,s3,f3,rfl,hb3,hk3⟩
 have B3:Hid (Below w.heap.size w v3):=below_then B2.out hb3
 have P1:Hid (∃ B,Own v3 B (.slice p1 m1 c1) (xtx 1 xaT)):=by
  obtain ⟨B,h⟩:=O1'.out
  exact ⟨B,own_of h fun k _ hk=>hb3.block k hk⟩
 have P2:Hid (∃ B,Own v3 B (.slice p2 m2 c2) (xtx 2 xgT)):=by
  obtain ⟨B,h⟩:=O2.out
  exact ⟨B,own_of h fun k _ hk=>hb3.block k hk⟩
 have K3:=hide hk3
 clear hb3 hk3 O1' O2 RA
 go_wp2_with (go_at_call 15;refine Sto.out ?_)
 refine Sto.mk ?_
 have rb:=RB.out (v3.alloc (.cells #[.int .i64 7,.bool false,.bool false,.string ⟨#[]⟩,.int .i64 0,.int .u64 0,.string ⟨#[]⟩,.slice a3 m3 d3,.slice (some ⟨b3,o3,none⟩) 2 c3] 29)) (below_then B3.out (below_al (Below.refl _ _)))
 rw [World.size_alloc] at rb
 refine rb.mono ?_
 rintro e v4 ⟨rfl,hb4⟩
 have L4:Hid (Below v3.heap.size v3 v4):=below_then (below_al (Below.refl _ _)) (by rw [World.size_alloc];exact hb4)
 have X4:Hid (Bx v4 v3.heap.size (zr 7) (.slice a3 m3 d3) (.slice (some ⟨b3,o3,none⟩) 2 c3)):=⟨(hb4.block _ (by omega)).trans (heap_alloc_last _ _)⟩
 have B4:Hid (Below w.heap.size w v4):=below_then B3.out L4.out
 clear hb4 RB rb
 have L35:Hid (∀ o,Below v3.heap.size v3 (v4.alloc o)):=fun o=>below_then L4.out (below_al (Below.refl _ _))
 have cv1:∀ o,(convert 32 9 (.slice p1 m1 c1)).run Tryz.prog (v4.alloc o)=.ok (.string ⟨#[60,116,101,120,116,62,97,38,108,116,59,38,35,120,97,59,60,47,116,101,120,116,62]⟩) (v4.alloc o):=fun o=>by
  obtain ⟨B,h⟩:=P1.out
  have:=own_conv (own_of h fun k _ hk=>(L35.out o).block k hk)
  rw [xa_tx] at this
  exact this
 have cv2:∀ o,(convert 32 9 (.slice p2 m2 c2)).run Tryz.prog (v4.alloc o)=.ok (.string ⟨#[60,116,97,103,32,110,97,109,101,61,34,116,34,62,60,108,105,115,116,62,60,47,108,105,115,116,62,60,47,116,97,103,62]⟩) (v4.alloc o):=fun o=>by
  obtain ⟨B,h⟩:=P2.out
  have:=own_conv (own_of h fun k _ hk=>(L35.out o).block k hk)
  rw [xg_tx] at this
  exact this
 have X5:Hid (∀ o,Bx (v4.alloc o) v3.heap.size (zr 7) (.slice a3 m3 d3) (.slice (some ⟨b3,o3,none⟩) 2 c3)):=fun o=>⟨((below_al (Below.refl _ _)).block _ X4.out.lt').trans X4.out.at_⟩
 have x8:=fun o=>(X5.out o).cells.2.2.2.2.2.2.2.2
 have R5:Hid (∀ o,RD 4 (v4.alloc o) xvT (.slice a3 m3 d3) (.slice (some ⟨b3,o3,none⟩) 2 c3)):=fun o=>K3.out.2.2 _ fun k _ hk=>(L35.out o).block k (Nat.lt_of_lt_of_le hk K3.out.2.1)
 have el:Hid (∀ o,∃ n1 l1,(v4.alloc o).rangeAt b3 (o3 + 9) (vals (vhd 3 xv2) n1 l1).toList):=fun o=>by
  obtain ⟨_,r2⟩:=R5.out o
  rcases r2 with ⟨h0,_⟩|⟨b,oo,c,sp,hls,_,_,hsp,hel⟩
  ·cases h0
  ·cases hls
   obtain ⟨n1,l1,e1,_⟩:=hel 1 (by decide)
   exact ⟨n1,l1,e1⟩
 have q6:∀ o,(v4.alloc o).cell? ⟨b3,o3 + 9 + 6,none⟩=some (.string ⟨#[32,97,65,62]⟩):=fun o=>by obtain ⟨n1,l1,h⟩:=el.out o;exact h 6 _ rfl
 clear P1 P2
 go_wp2_with fail
 go_ret
 exact ⟨rfl,below_then B4.out (below_al (Below.refl _ _))⟩
end Go.Proofs.YthodiandebahdaaGreatDoor
