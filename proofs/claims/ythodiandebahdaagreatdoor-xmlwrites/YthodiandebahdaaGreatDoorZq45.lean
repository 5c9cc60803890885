/- Merged by program: DrRead, BxDoc, YzWrite. -/
import Derived.Test.YthodiandebahdaaGreatDoorZq44
import Derived.Test.YthodiandebahdaaGreatDoorZq34
import Derived.Test.YthodiandebahdaaGreatDoorZq29
namespace Go.Proofs.YthodiandebahdaaGreatDoor
open Go.RowKit
set_option linter.unusedSimpArgs false
set_option linter.unusedVariables false
set_option maxHeartbeats 8000000
section
variable {w : World} {ops : Array Oper} {rest : List Oper} {o : Oper} {a : Act} {Q : Exit → Act → World → Prop}
theorem app_ee (hgd:o.guard=none)(s x:Operand)(ho:o.op=.call {callee:=.builtin .append,args:=#[s,x],argTypes:=#[45,45]})
  (B:Nat) (v:Value) (es:List Hd)(hs:a.eval s=v)(hown:w.ownsRow B 76 7 v es.length (ecs es)) (u:Value) (B':Nat) (fs:List Hd)(hx:a.eval x=u)(hu:w.ownsRow B' 76 7 u fs.length (ecs fs))(hk:es.length+fs.length≤3000000)(hB:B≤w.heap.size)
  (h:∀ v' w',Hid (w'.ownsRow B 76 7 v' (es.length+fs.length) (ecs (es++fs)))→Hid (Below B w w')→Hid (∀ q,q<w.heap.size→v.ownBlock≠some q→w'.heap[q]?=w.heap[q]?)→wpList Tryz.prog ops Q rest (a.put o.dst v') w'):wpList Tryz.prog ops Q (o :: rest) a w:=by
 obtain ⟨i0,hi,hz0,hz1,hz2⟩:=info_parts infoE
 rcases id hu.2 with ⟨hu0,e0⟩|⟨g,cap,cur,hu0,_⟩
 ·have hf:fs=[]:=List.eq_nil_of_length_eq_zero (by rw [←e0])
  subst hf
  refine wpList_plain hgd fun K hK=>?_
  have hr:=run_append_owned_none (P:=Tryz.prog) w B 45 o.type 76 i0 7 Tryz.underlying45 hi v es.length (ecs es) hown
  rw [hu0] at hx
  unfold Oper.wp execOp
  simp only [ho,resolve,invoke,builtin,Sem.run_bind,Sem.run_pure,Result.andThen_ok,List.map_toArray,List.map_cons,List.map_nil,hs,hx,hr]
  exact hK _ _ (h v w (show w.ownsRow _ _ _ _ _ _ by simpa using hown) (Below.refl _ _) (fun _ _ _=>rfl))
 ·rw [hu0] at hx hu
  refine wpList_append_own_at w hgd s x 45 ho B 76 i0 _ 7 72 Tryz.underlying45 hi hz0 hz1 hz2 rfl (by decide) v es.length (ecs es) hs hown ⟨g,0,none⟩ fs.length cap (ecs fs) hx (by rw [ecs_len]) (row_news hu) (ecs_cell _) (by unfold maxLen;omega) (by omega) hB ?_
  intro v' w' h1 h2 _ _
  rw [←ecs_app] at h1
  exact h v' w' h1 ((Below.refl B w).grown h2 hB fun k hk=>(World.ownsRow.lt hown k hk).1) (fun q hq hv=>h2.block q hq (fun e=>hv e.symm))
end
def zV:Array Value:=#[.int .i64 0,.bool false,.bool false,.string ⟨#[]⟩,.int .i64 0,.int .u64 0,.string ⟨#[]⟩,.slice none 0 0,.slice none 0 0]
def readX (l:List UInt8):Sum Int (List Hd):=bnd (feedX x0 l) fun x=>bnd (finX {x with t:={x.t with told:=[]} }) fun y=>.inr (x.t.told++y.t.told)
def RR (L:Nat)(w:World)(o:Sum Int (List Hd))(e:Ending)(w':World):Prop :=
 Below L w w'∧match o with
 | .inl E=>e=.returned (.tuple #[.agg zV,.int .i64 E])
 | .inr es=>∃ y E,e=.returned (.tuple #[.agg y,.int .i64 E])∧(E≠0→y=zV)∧(doneS (runE es)=false→E≠0)∧(doneS (runE es)=true→∃ x:VT es.length,es=fl es.length x∧IsV es.length x∧Sz es.length x∧(E=0↔Win es.length x)∧(E=0→∃ ns ls s f,y=vals (vhd es.length x) ns ls∧L≤s∧KR es.length w' x ns ls s f))
theorem es_own {W:World} {B:Nat} {v:Value} {es:List Hd} (h:W.ownsRow B 76 7 v es.length (ecs es)):ES W v es:=by
 rcases id h.2 with ⟨rfl,e⟩|⟨g,cap,cur,rfl,_⟩
 ·have:es=[]:=List.eq_nil_of_length_eq_zero e
  subst this
  exact ES.nil W
 ·exact ES.row h rfl
def set9 (w:World)(k:Nat)(h:Hd)(ns ls:Value):World:=((((((((w.setCell ⟨k,0,none⟩ (.int .i64 h.kind)).setCell ⟨k,1,none⟩ (.bool h.flag)).setCell ⟨k,2,none⟩ (.bool h.neg)).setCell ⟨k,3,none⟩ (.string h.dig)).setCell ⟨k,4,none⟩ (.int .i64 h.exp)).setCell ⟨k,5,none⟩ (.int .u64 h.bits)).setCell ⟨k,6,none⟩ (.string h.text)).setCell ⟨k,7,none⟩ ns).setCell ⟨k,8,none⟩ ls
theorem bx_set9 {w:World} {k:Nat} {h0:Hd} {n0 l0:Value} (hb:Bx w k h0 n0 l0)(h:Hd)(ns ls:Value):Bx (set9 w k h ns ls) k h ns ls∧But k w (set9 w k h ns ls):=by
 constructor
 ·have h1:=blk_set hb.at_ 0 (.int .i64 h.kind)
  simp [vals] at h1
  have h2:=blk_set h1 1 (.bool h.flag)
  simp at h2
  have h3:=blk_set h2 2 (.bool h.neg)
  simp at h3
  have h4:=blk_set h3 3 (.string h.dig)
  simp at h4
  have h5:=blk_set h4 4 (.int .i64 h.exp)
  simp at h5
  have h6:=blk_set h5 5 (.int .u64 h.bits)
  simp at h6
  have h7:=blk_set h6 6 (.string h.text)
  simp at h7
  have h8:=blk_set h7 7 ns
  simp at h8
  have h9:=blk_set h8 8 ls
  simp at h9
  exact ⟨h9⟩
 ·exact (((((((((But.refl k w).set 0 _).set 1 _).set 2 _).set 3 _).set 4 _).set 5 _).set 6 _).set 7 _).set 8 _
theorem Bx.lt' {w:World} {k:Nat} {h:Hd} {ns ls:Value} (hb:Bx w k h ns ls):k<w.heap.size:=(Array.getElem?_eq_some_iff.1 hb.at_).1
theorem build_p (v:Value)(es:List Hd)(w:World)(hv:ES w v es)(hs:es.length≤199000)(hz:∀ e∈es,EvZ e)(g:Ut.Gu w) :
  Calls Tryz.prog 20 #[v] w fun e w'=>Below w.heap.size w w'∧∃ h a1 m1 d1 a2 m2 d2 E,e=.returned (.tuple #[.agg (vals h (.slice a1 m1 d1) (.slice a2 m2 d2)),.int .i64 E])∧(E≠0→vals h (.slice a1 m1 d1) (.slice a2 m2 d2)=zV)∧(doneS (runE es)=false→E≠0) ∧
   (doneS (runE es)=true→∃ x:VT es.length,es=fl es.length x∧IsV es.length x∧Sz es.length x∧(E=0↔Win es.length x)∧(E=0→h=vhd es.length x∧∃ s f,w.heap.size≤s∧KR es.length w' x (.slice a1 m1 d1) (.slice a2 m2 d2) s f)):=by
 refine (Build_es v es w hv hs hz g).mono ?_
 rintro e w' ⟨hb,y,E,rfl,h1,h2,h3⟩
 refine ⟨hb,?_⟩
 by_cases hE:E=0
 ·have hd:doneS (runE es)=true:=by
   cases hq:doneS (runE es) with
   | true=>rfl
   | false=>exact absurd hE (h2 hq)
  obtain ⟨x,k1,k2,k3,k4,k5⟩:=h3 hd
  obtain ⟨ns,ls,s,f,rfl,k6,k7⟩:=k5 hE
  obtain ⟨a1,m1,d1,a2,m2,d2,rfl,rfl⟩:=k7.rd.shape
  exact ⟨_,a1,m1,d1,a2,m2,d2,E,rfl,fun q=>absurd hE q,fun q=>(by rw [hd] at q;cases q),fun _=>⟨x,k1,k2,k3,k4,fun _=>⟨rfl,s,f,k6,k7⟩⟩⟩
 ·have hy:=h1 hE
  subst hy
  exact ⟨zr 0,none,0,0,none,0,0,E,rfl,fun _=>rfl,h2,fun hd=>by
   obtain ⟨x,k1,k2,k3,k4,k5⟩:=h3 hd
   exact ⟨x,k1,k2,k3,k4,fun q=>absurd q hE⟩⟩
section
variable {W W1 W2 : World} {r : Nat} {g : Tg} {m m1 : Xm} {st : Xs}
theorem Bx.keepX {k:Nat} {h:Hd} {ns ls:Value} (hb:Bx W k h ns ls)(hf:XF g m W W1)(nb:NoX m k):Bx W1 k h ns ls :=
 ⟨hf.keep k _ _ _ hb.at_ (by decide) (by decide) (by decide) (by decide) (by decide) (by decide) (by decide) nb.1 nb.2.1 nb.2.2.1 nb.2.2.2⟩
theorem row_sl {B n:Nat} {v:Value} {xs:List Value} (h:W.ownsRow B 76 7 v n xs):∃ a n c,v=.slice a n c:=by
 rcases h.2 with ⟨e,_⟩|⟨_,_,_,e,_⟩
 ·exact ⟨_,_,_,e⟩
 ·exact ⟨_,_,_,e⟩
theorem own_told {B n:Nat} {v:Value} {xs:List Value} (h:W.ownsRow B 76 7 v n xs)(hm:XM W r g m st)(ht:m.t.told=.slice none 0 0)(hf:XF g m W W1):W1.ownsRow B 76 7 v n xs :=
 own_of h fun q hq _=>by
  obtain ⟨c,f,hc⟩:=own_blk h hq
  rw [hf.keep q c _ f hc (by decide) (by decide) (by decide) (by decide) (by decide) (by decide) (by decide) (ty_ne hc hm.row.mark (by decide)) (ty_ne hc hm.row.held (by decide)) (ty_ne hc hm.row.ref (by decide)) (by rw [ht];intro e;cases e),hc]
set_option maxRecDepth 100000 in
theorem tread_x {l:List UInt8} (h:XM W r g m x0)(ge:Ge (bdX x0 l=true) W)(tr:g.t≤r)(va:Option Addr)(vc:Nat)(hs:SB W g.lo m (.slice va l.length vc) l)(hlen:∀ es,readX l=.inr es→es.length≤199000∧∀ e∈es,EvZ e) :
  Calls Tryz.prog 28 #[.iface 43 (.pointer (some ⟨r,0,none⟩)),.slice va l.length vc] W fun e w'=>RR g.lo W (readX l) e w':=by
 have mthF : ∀ w v, (method 354 43 v "Feed").run Tryz.prog w = .ok (18, v) w := fun w v => by kernel_rfl
 have mthE : ∀ w v, (method 354 43 v "End").run Tryz.prog w = .ok (19, v) w := fun w v => by kernel_rfl
 obtain ⟨W0,hW0⟩:∃ W0,W0=W.alloc (.cells (vals (zr 0) (.slice none 0 0) (.slice none 0 0)) 29):=⟨_,rfl⟩
 have B0:Hid (Below W.heap.size W W0):=by rw [hW0];exact below_al (Below.refl _ _)
 have X0:Hid (Bx W0 W.heap.size (zr 0) (.slice none 0 0) (.slice none 0 0)):=⟨by rw [hW0];exact heap_alloc_last _ _⟩
 have M0:=hide (h.then B0.out)
 have nb:=hide (h.nob (Nat.le_refl W.heap.size))
 have kl0:Hid (W.heap.size<W0.heap.size):=by show _<_;rw [hW0];simp
 have kg:Hid (g.lo≤W.heap.size):=h.low
 have F00:Hid (XF g m W W0):=XF.of B0.out h.low
 have FD:Hid (∀ w,Below W0.heap.size W0 w→Calls Tryz.prog 18 #[.pointer (some ⟨r,0,none⟩),.slice va l.length vc] w fun e w'=>FP w r g m (feedX x0 l) e w'):=fun w hb=>xfeed_x (M0.out.then hb) ((ge.low B0.out (Nat.le_trans h.t.gk.low h.low)).low hb (Nat.le_trans M0.out.t.gk.low M0.out.low)) x0_w ((hs.move F00.out (OMx.refl _ _)).move (XF.of hb M0.out.low) (OMx.refl _ _))
 have her:=hide (fun E (q:feedX x0 l=.inl E)=>feedX_e q)
 have tr':=hide tr
 obtain ⟨k,hk⟩:∃ k,W.heap.size=k:=⟨_,rfl⟩
 rw [hk] at X0 nb kl0 kg
 have lo:=hide M0.out.low
 clear h ge tr hs B0
 simp only [vals,zr] at hW0
 unfold readX at hlen ⊢
 generalize feedX x0 l=o at FD her hlen ⊢
 cases o with
 | inl E =>
  have hE:=her.out E rfl
  have e0:(E != 0)=true:=by rcases hE with rfl|rfl <;> rfl
  clear her hlen hE
  simp only [bnd]
  go_enter Tryz.func28, Tryz.ntmps28
  go_wp2_with (go_at_call 18;refine (FD.out _ (by rw [hW0];repeat (first|exact Below.refl _ _|refine Below.drew ?_|refine below_al ?_))).mono ?_;rintro e w2 ⟨hp1,rfl,_⟩;have F2:Hid (XF g m W0 w2):=(XF.of (by rw [hW0];repeat (first|exact Below.refl _ _|refine Below.drew ?_|refine below_al ?_)) M0.out.low).trans (OMx.refl _ _) hp1;clear hp1;have X2:=hide (X0.out.keepX F2.out nb.out);have x2:=X2.out.cells;simp only [zr] at x2;obtain ⟨c0,c1,c2,c3,c4,c5,c6,c7,c8⟩:=x2;have fz:=X2.out.frz;have kl:=X2.out.lt')
  have Q:=bx_set9 X2.out (zr 0) (.slice none 0 0) (.slice none 0 0)
  obtain ⟨Z,hZ⟩:∃ Z,set9 w2 k (zr 0) (.slice none 0 0) (.slice none 0 0)=Z:=⟨_,rfl⟩
  rw [hZ] at Q
  simp only [set9,zr] at hZ
  rw [hZ]
  obtain ⟨Q1,Q2⟩:=Q
  obtain ⟨y0,y1,y2,y3,y4,y5,y6,y7,y8⟩:=Q1.cells
  simp only [zr] at y0 y1 y2 y3 y4 y5 y6 y7 y8
  refine bodyPost_ret (v:=.tuple #[.agg #[.int .i64 0,.bool false,.bool false,.string ⟨#[]⟩,.int .i64 0,.int .u64 0,.string ⟨#[]⟩,.slice none 0 0,.slice none 0 0],.int .i64 E]) (by simp [results,Tryz.results28,go_sem,y0,y1,y2,y3,y4,y5,y6,y7,y8]) rfl ⟨?_,rfl⟩
  exact (F00.out.trans (OMx.refl _ _) F2.out).below.trans (Q2.below kg.out)
 | inr x =>
  have EN:Hid (∀ w2 m2,XM w2 r g m2 {x with t:={x.t with told:=[]} }→Calls Tryz.prog 19 #[.pointer (some ⟨r,0,none⟩)] w2 fun e w'=>XE w2 r g m2 (finX {x with t:={x.t with told:=[]} }) e w'):=fun w2 m2 h=>xend_x h (by have:=tr'.out;omega)
  have her2:=hide (fun E (q:finX {x with t:={x.t with told:=[]} }=.inl E)=>finX_err q)
  clear her
  simp only [bnd] at hlen ⊢
  generalize finX {x with t:={x.t with told:=[]} }=o2 at EN her2 hlen ⊢
  cases o2 with
  | inl E =>
   have hE:=her2.out E rfl
   have e0:(E != 0)=true:=by rcases hE with rfl|rfl <;> rfl
   clear her2 hlen hE
   simp only
   go_enter Tryz.func28, Tryz.ntmps28
   go_wp2_with (first|(go_at_call 18;refine (FD.out _ (by rw [hW0];repeat (first|exact Below.refl _ _|refine Below.drew ?_|refine below_al ?_))).mono ?_;rintro e w2 ⟨hp1,m2,v2,he2,hp2,hp3,hp4,hp5,_⟩;obtain ⟨va2,vn2,vc2,hv2⟩:=row_sl hp5;subst he2;subst hv2;have F2:Hid (XF g m W0 w2):=(XF.of (by rw [hW0];repeat (first|exact Below.refl _ _|refine Below.drew ?_|refine below_al ?_)) M0.out.low).trans (OMx.refl _ _) hp1;have M2:=hide hp2;have O2:Hid (OMx W0 m m2):=(OMx.refl _ _).trans hp3 (show Below W0.heap.size W0 _ from (by rw [hW0];repeat (first|exact Below.refl _ _|refine Below.drew ?_|refine below_al ?_))).size;have T2:=hide hp4;have V2:=hide hp5;have X2:=hide (X0.out.keepX F2.out nb.out);have nb2:=hide (nb.out.om O2.out kl0.out);clear hp1 hp2 hp3 hp4 hp5)|(go_at_call 19;refine (EN.out _ _ M2.out).mono ?_;rintro e w3 ⟨hp1,_,rfl,_⟩;have F3:=hide hp1;have X3:=hide (X2.out.keepX F3.out nb2.out);have x3:=X3.out.cells;simp only [zr] at x3;obtain ⟨c0,c1,c2,c3,c4,c5,c6,c7,c8⟩:=x3;have fz:=X3.out.frz;have kl:=X3.out.lt';clear hp1))
   have Q:=bx_set9 X3.out (zr 0) (.slice none 0 0) (.slice none 0 0)
   obtain ⟨Z,hZ⟩:∃ Z,set9 w3 k (zr 0) (.slice none 0 0) (.slice none 0 0)=Z:=⟨_,rfl⟩
   rw [hZ] at Q
   simp only [set9,zr] at hZ
   rw [hZ]
   obtain ⟨Q1,Q2⟩:=Q
   obtain ⟨y0,y1,y2,y3,y4,y5,y6,y7,y8⟩:=Q1.cells
   simp only [zr] at y0 y1 y2 y3 y4 y5 y6 y7 y8
   refine bodyPost_ret (v:=.tuple #[.agg #[.int .i64 0,.bool false,.bool false,.string ⟨#[]⟩,.int .i64 0,.int .u64 0,.string ⟨#[]⟩,.slice none 0 0,.slice none 0 0],.int .i64 E]) (by simp [results,Tryz.results28,go_sem,y0,y1,y2,y3,y4,y5,y6,y7,y8]) rfl ⟨?_,rfl⟩
   exact ((F00.out.trans (OMx.refl _ _) F2.out).below.trans F3.out.below).trans (Q2.below kg.out)
  | inr y =>
   obtain ⟨hl1,hl2⟩:=hlen _ rfl
   have BU:=hide (fun w4 v (hv:ES w4 v (x.t.told++y.t.told))(g:Ut.Gu w4)=>build_p v (x.t.told++y.t.told) w4 hv hl1 hl2 g)
   have hl1':=hide hl1
   clear her2 hlen hl1 hl2
   simp only
   go_enter Tryz.func28, Tryz.ntmps28
   go_wp2_with (first|(go_at_call 18;refine (FD.out _ (by rw [hW0];repeat (first|exact Below.refl _ _|refine Below.drew ?_|refine below_al ?_))).mono ?_;rintro e w2 ⟨hp1,m2,v2,he2,hp2,hp3,hp4,hp5,_⟩;obtain ⟨va2,vn2,vc2,hv2⟩:=row_sl hp5;subst he2;subst hv2;have F2:Hid (XF g m W0 w2):=(XF.of (by rw [hW0];repeat (first|exact Below.refl _ _|refine Below.drew ?_|refine below_al ?_)) M0.out.low).trans (OMx.refl _ _) hp1;have M2:=hide hp2;have O2:Hid (OMx W0 m m2):=(OMx.refl _ _).trans hp3 (show Below W0.heap.size W0 _ from (by rw [hW0];repeat (first|exact Below.refl _ _|refine Below.drew ?_|refine below_al ?_))).size;have T2:=hide hp4;have V2:=hide hp5;have X2:=hide (X0.out.keepX F2.out nb.out);have nb2:=hide (nb.out.om O2.out kl0.out);clear hp1 hp2 hp3 hp4 hp5)|(go_at_call 19;refine (EN.out _ _ M2.out).mono ?_;rintro e w3 ⟨hp1,_,v3,he3,_,hp3,_⟩;obtain ⟨va3,vn3,vc3,hv3⟩:=row_sl hp3;subst he3;subst hv3;have F3:=hide hp1;have X3:=hide (X2.out.keepX F3.out nb2.out);have V3:=hide hp3;have U3:=hide (own_told V2.out M2.out T2.out hp1);have GU:Hid (Ut.Gu w3):=Gu.low M2.out.t.gu hp1.below M2.out.t.gk.low;clear hp1 hp3)|(at_builtin;refine Sto.out ?_))
   refine Sto.mk ?_
   refine app_ee rfl (.tmp 28) (.tmp 29) rfl (g.t+1) _ x.t.told rfl U3.out _ (g.t+1) y.t.told rfl V3.out (by have:=hl1'.out;rw [List.length_append] at this;omega) (by have:=M2.out.t.lt;have:=F3.out.below.size;omega) ?_
   intro v' w4 ho hb4 hq4
   have es4:ES w4 v' (x.t.told++y.t.told):=es_own (by have:=ho.out;rw [←List.length_append] at this;exact this)
   have lo4:Hid (g.lo≤g.t+1):=by show _≤_;have:=M2.out.t.gk.loR;omega
   have B4:Hid (Below g.lo W w4):=(((F00.out.trans (OMx.refl _ _) F2.out).below.trans F3.out.below)).trans (hb4.out.mono lo4.out)
   have k3:k<w3.heap.size:=X3.out.lt'
   have X4:Hid (Bx w4 k (zr 0) (.slice none 0 0) (.slice none 0 0)):=⟨(hq4.out k k3 (fun e=>by
    obtain ⟨c,f,hc⟩:=own_blk U3.out e
    rw [X3.out.at_] at hc
    exact absurd (cells_ty hc) (by decide))).trans X3.out.at_⟩
   have BB:=hide (BU.out w4 v' es4 (Gu.low GU.out (hb4.out.mono lo4.out) M2.out.t.gk.low))
   obtain ⟨a4,c4',hv4,_⟩:=es4
   obtain ⟨nn,hnn⟩:∃ nn,(x.t.told++y.t.told).length=nn:=⟨_,rfl⟩
   rw [hnn] at hv4
   subst hv4
   clear hnn
   have k4:k<w4.heap.size:=X4.out.lt'
   have gw4:Hid (g.lo≤w4.heap.size):=by show _≤_;have:=kg.out;omega
   clear BU ho hb4 hq4 FD EN
   go_wp2_with (go_at_call 20;refine Sto.out ?_)
   refine Sto.mk (BB.out.mono ?_)
   rintro e w5 ⟨hp1,h5,a1,n1,d1,a2,n2,d2,E5,rfl,hp2,hp3,hp4⟩
   simp only [vals]
   have B5:=hide hp1
   have P2:=hide hp2
   have P3:=hide hp3
   have P4:=hide hp4
   clear hp1 hp2 hp3 hp4
   have X5:Hid (Bx w5 k (zr 0) (.slice none 0 0) (.slice none 0 0)):=⟨(B5.out.block k k4).trans X4.out.at_⟩
   have x5:=X5.out.cells
   simp only [zr] at x5
   obtain ⟨c0,c1,c2,c3,c4,c5,c6,c7,c8⟩:=x5
   have fz:=X5.out.frz
   have kl:=X5.out.lt'
   go_wp2_with fail
   have Q:=bx_set9 X5.out h5 (.slice a1 n1 d1) (.slice a2 n2 d2)
   obtain ⟨Z,hZ⟩:∃ Z,set9 w5 k h5 (.slice a1 n1 d1) (.slice a2 n2 d2)=Z:=⟨_,rfl⟩
   rw [hZ] at Q
   simp only [set9] at hZ
   rw [hZ]
   obtain ⟨Q1,Q2⟩:=Q
   obtain ⟨y0,y1,y2,y3,y4,y5,y6,y7,y8⟩:=Q1.cells
   refine bodyPost_ret (v:=.tuple #[.agg #[.int .i64 h5.kind,.bool h5.flag,.bool h5.neg,.string h5.dig,.int .i64 h5.exp,.int .u64 h5.bits,.string h5.text,.slice a1 n1 d1,.slice a2 n2 d2],.int .i64 E5]) (by simp [results,Tryz.results28,go_sem,y0,y1,y2,y3,y4,y5,y6,y7,y8]) rfl ⟨?_,vals h5 (.slice a1 n1 d1) (.slice a2 n2 d2),E5,rfl,P2.out,P3.out,fun hd=>?_⟩
   ·exact (B4.out.trans (B5.out.mono gw4.out)).trans (Q2.below kg.out)
   ·obtain ⟨z,q1,q2,q3,q4,q5⟩:=P4.out hd
    refine ⟨z,q1,q2,q3,q4,fun hE=>?_⟩
    obtain ⟨rfl,s,f,q6,q7⟩:=q5 hE
    have hw4:=gw4.out
    refine ⟨_,_,s,f,rfl,by omega,q7.move (by rw [Q2.size];exact q7.2.1) fun j h1 h2=>Q2.blk j (by omega)⟩
end
section
variable {n : Nat} {h : Hd} {l : List (VT n)}
theorem xtx_1 (hk:h.kind=1):xtx (n+1) ((h,l):VT (n+1))=mNull:=by
 show (if h.kind=1 then _ else _)=_
 rw [if_pos hk]
theorem xtx_2 (hk:h.kind=2):xtx (n+1) ((h,l):VT (n+1))=xflg h.flag:=by
 show (if h.kind=1 then _ else _)=_
 rw [if_neg (show ¬ h.kind=1 by omega),if_pos hk]
theorem xtx_3 (hk:h.kind=3):xtx (n+1) ((h,l):VT (n+1))=mNum++(printL h.neg (bl h.dig) h.exp++mNumE):=by
 show (if h.kind=1 then _ else _)=_
 rw [if_neg (show ¬ h.kind=1 by omega),if_neg (show ¬ h.kind=2 by omega),if_pos hk]
theorem xtx_4 (hk:h.kind=4):xtx (n+1) ((h,l):VT (n+1))=mFloat++(bl (fhexS h.bits.toNat)++mFloatE):=by
 show (if h.kind=1 then _ else _)=_
 rw [if_neg (show ¬ h.kind=1 by omega),if_neg (show ¬ h.kind=2 by omega),if_neg (show ¬ h.kind=3 by omega),if_pos hk]
theorem xtx_5 (hk:h.kind=5):xtx (n+1) ((h,l):VT (n+1))=mText++(xeL (bl h.text)++mTextE):=by
 show (if h.kind=1 then _ else _)=_
 rw [if_neg (show ¬ h.kind=1 by omega),if_neg (show ¬ h.kind=2 by omega),if_neg (show ¬ h.kind=3 by omega),if_neg (show ¬ h.kind=4 by omega),if_pos hk]
theorem xtx_6 (hk:h.kind=6):xtx (n+1) ((h,l):VT (n+1))=mBytes++(hexL (bl h.text)++mBytesE):=by
 show (if h.kind=1 then _ else _)=_
 rw [if_neg (show ¬ h.kind=1 by omega),if_neg (show ¬ h.kind=2 by omega),if_neg (show ¬ h.kind=3 by omega),if_neg (show ¬ h.kind=4 by omega),if_neg (show ¬ h.kind=5 by omega),if_pos hk]
theorem xtx_7 (hk:h.kind=7):xtx (n+1) ((h,l):VT (n+1))=mList++(xel n l l.length++mListE):=by
 show (if h.kind=1 then _ else _)=_
 rw [if_neg (show ¬ h.kind=1 by omega),if_neg (show ¬ h.kind=2 by omega),if_neg (show ¬ h.kind=3 by omega),if_neg (show ¬ h.kind=4 by omega),if_neg (show ¬ h.kind=5 by omega),if_neg (show ¬ h.kind=6 by omega),if_pos hk]
 rfl
theorem xtx_8 (hk:h.kind=8):xtx (n+1) ((h,l):VT (n+1))=mRec++(xrc n h.names l l.length++mRecE):=by
 show (if h.kind=1 then _ else _)=_
 rw [if_neg (show ¬ h.kind=1 by omega),if_neg (show ¬ h.kind=2 by omega),if_neg (show ¬ h.kind=3 by omega),if_neg (show ¬ h.kind=4 by omega),if_neg (show ¬ h.kind=5 by omega),if_neg (show ¬ h.kind=6 by omega),if_neg (show ¬ h.kind=7 by omega),if_pos hk]
 rfl
theorem xtx_9 (hk:h.kind=9):xtx (n+1) ((h,l):VT (n+1))=mTag++(xeL (bl h.text)++(mNameE++((l[0]?).elim [] (xtx n)++mTagE))):=by
 show (if h.kind=1 then _ else _)=_
 rw [if_neg (show ¬ h.kind=1 by omega),if_neg (show ¬ h.kind=2 by omega),if_neg (show ¬ h.kind=3 by omega),if_neg (show ¬ h.kind=4 by omega),if_neg (show ¬ h.kind=5 by omega),if_neg (show ¬ h.kind=6 by omega),if_neg (show ¬ h.kind=7 by omega),if_neg (show ¬ h.kind=8 by omega)]
end
set_option maxRecDepth 100000 in
theorem wcatch_idle (p q:Addr)(w:World) :
  CallsD Tryz.prog 39 #[.pointer (some p),.pointer (some q)] .returning w fun e u' w'=>e=.returned (.tuple #[])∧u'=.returning∧w'=w:=by
 refine callsD_of_wpS Tryz.func39 rfl fun c₀ cs hu=>?_
 apply wpS_seq
 apply wpS_region
 simp [wpOpsS,go_sem,recoverD,hu,Tryz.ntmps39,Exit.thenS,ta_nil]
 apply wpS_seq
 apply wpS_region
 simp [wpOpsS,go_sem,Exit.thenS,Array.replicate]
 refine wpS_cond (t:=false) (by simp [Act.eval,Array.replicate]) ?_
 simp only [Bool.false_eq_true,if_false]
 refine wpS_of_wp (wp_skip ?_)
 cases c₀
 simp_all [bodyPostS,results,Tryz.results39]
set_option maxRecDepth 100000 in
theorem wcatch_pan (p q:Addr)(x:Int)(v:Value)(older:List PanicEntry)(w:World)(hc:w.cell? p=some v)(hz:w.frozen? p=false)(hc2:w.cell? q=some (.int .i64 x))(hz2:w.frozen? q=false)(hpq:p≠q)(E:Int) :
  CallsD Tryz.prog 39 #[.pointer (some p),.pointer (some q)] (.panicking ({v:=.iface 33 (.int .i64 E),recovered:=false} :: older)) w fun e u' w' =>
   e=.returned (.tuple #[])∧u'=.panicking ({v:=.iface 33 (.int .i64 E),recovered:=true} :: older)∧w'=(w.setCell p (.slice none 0 0)).setCell q (.int .i64 E):=by
 have hc3:(w.setCell p (.slice none 0 0)).cell? q=some (.int .i64 x):=by rw [World.cell?_setCell_other _ _ _ _ hpq];exact hc2
 refine callsD_of_wpS Tryz.func39 rfl fun c₀ cs hu=>?_
 apply wpS_seq
 apply wpS_region
 simp [wpOpsS,go_sem,recoverD,hu,Tryz.ntmps39,Exit.thenS,ta_err]
 apply wpS_seq
 apply wpS_region
 simp [wpOpsS,go_sem,Exit.thenS,Array.replicate]
 refine wpS_cond (t:=true) (by simp [Act.eval,Array.replicate]) ?_
 simp only [if_true]
 apply wpS_region
 simp [wpOpsS,go_sem,hc,hz,hc3,hz2,bodyPostS,results,Tryz.results39]
set_option maxRecDepth 100000 in
theorem xlay (n:Nat)(x:VT n)(ns ls:Value)(w0 W:World)(i:Nat)(hc:Vx n x ns ls w0 i W)(hW:WB W i []):Calls Tryz.prog 24 #[.pointer (some ⟨i,0,none⟩),.agg (vals (vhd n x) ns ls)] W fun e w'=>WO i [] (xtx n x) W e w':=by
 have hlt:=hW.lt
 have C:=hide (fun o=>xval_all n x ns ls w0 (W.alloc o) i [] ⟨hc.rd,hc.vo,hc.lo,hc.be.trans ((below_al (Below.refl W.heap.size W)).mono hc.be.size),hc.tab,hc.gz⟩ (hW.below (below_al (Below.refl _ _))) (by simp))
 obtain ⟨a1,m1,d1,a2,m2,d2,rfl,rfl⟩:=hc.rd.shape
 obtain ⟨h,hh⟩:∃ h,vhd n x=h:=⟨_,rfl⟩
 rw [hh] at C ⊢
 simp only [vals] at C ⊢
 clear hc hW hh
 go_enter Tryz.func24, Tryz.ntmps24
 go_wp2_with (go_at_call 25;refine Sto.out ?_)
 refine Sto.mk ((C.out _).mono ?_)
 rintro e w1 hw
 have K:Hid (WO i [] (xtx n x) W e w1):=WO.base1 (FW.al (FW.refl _ _) hlt) hw
 rcases hw.two1 with rfl|rfl
 ·clear hw
  go_wp2_with fail
  go_end0
  exact K.out
 ·clear hw
  go_wp2_with fail
  exact ⟨rfl,K.out⟩
def JW (n:Nat)(x:VT n)(E:Int)(w:World)(e:Ending)(w':World):Prop :=
 Below w.heap.size w w'∧(E≠0→e=.returned (.tuple #[.slice none 0 0,.int .i64 E]))∧(E=0→((xtx n x).length≤65536→∃ a m c,e=.returned (.tuple #[.slice a m c,.int .i64 0])∧Own w' w.heap.size (.slice a m c) (xtx n x))∧(65536<(xtx n x).length→e=.returned (.tuple #[.slice none 0 0,.int .i64 2])))
theorem ownsRow_low {W:World} {B B' T sz n:Nat} {v:Value} {xs:List Value} (h:W.ownsRow B T sz v n xs)(hb:B'≤B):W.ownsRow B' T sz v n xs:=by
 refine ⟨h.1,?_⟩
 rcases h.2 with h0|⟨g,cap,cur,rfl,h1,h2⟩
 ·exact Or.inl h0
 ·exact Or.inr ⟨g,cap,cur,rfl,Nat.le_trans hb h1,h2⟩
set_option maxRecDepth 100000 in
theorem swrite_any (n:Nat)(x:VT n)(ns ls:Value)(w:World)(hr:Rdy n w x ns ls)(hg:Rg n x)(g:Ut.Gu w)(ht:Tab w.heap.size w)(gz:Gz w)(E:Int)(hE:Chk n x E) :
  Calls Tryz.prog 23 #[.agg (vals (vhd n x) ns ls),.func (.func 24) #[] #[]] w fun e w'=>JW n x E w e w':=by
 have hmf:∀ (fn:Fn)(first cap:Array Value) (w:World),(Instr.makeFunc fn first cap).run Tryz.prog w=.ok (.func fn first cap) w:=fun _ _ _ _=>rfl
 have ck:=hide (fun o1 o2 o3=>check_any n x ns ls (((w.alloc o1).alloc o2).alloc o3) (hr.below (below_al (below_al (below_al (Below.refl _ _))))) (g.below (below_al (below_al (below_al (Below.refl _ _))))) E hE)
 obtain ⟨a1,m1,d1,a2,m2,d2,rfl,rfl⟩:=hr.rd.shape
 obtain ⟨h,hh⟩:∃ h,vhd n x=h:=⟨_,rfl⟩
 have hr':=hide hr
 have hg':=hide hg
 have ht':=hide ht
 have gz':=hide gz
 have hE':=hide hE
 have hh':=hide hh
 rw [hh] at ck ⊢
 simp only [vals] at ck
 clear hr hg ht hE hh g gz
 show Calls _ _ #[.agg #[.int .i64 h.kind,.bool h.flag,.bool h.neg,.string h.dig,.int .i64 h.exp,.int .u64 h.bits,.string h.text,.slice a1 m1 d1,.slice a2 m2 d2],.func (.func 24) #[] #[]] _ _
 go_enter_defers Tryz.func23, Tryz.ntmps23
 go_wp2_with (go_at_call 38;refine Sto.out ?_)
 refine Sto.mk ((ck.out _ _ _).mono ?_)
 rintro e w1 ⟨rfl,hb1⟩
 have B1:Hid (Below w.heap.size w w1):=below_then (below_al (below_al (below_al (Below.refl _ _)))) hb1
 have C1:Hid (∀ q,q<w.heap.size+1+1+1→w1.heap[q]?=(((w.alloc (.cells (vals h (.slice a1 m1 d1) (.slice a2 m2 d2)) 29)).alloc (.cells #[.slice none 0 0] 32)).alloc (.cells #[.int .i64 0] 33)).heap[q]?):=fun q hq=>hb1.block q (by simpa using hq)
 have z1:w.heap.size+1+1<w1.heap.size:=by have:=hb1.size;simp at this;omega
 have V1:Hid (Bx w1 w.heap.size h (.slice a1 m1 d1) (.slice a2 m2 d2)):=⟨by
  rw [C1.out _ (by omega),Below.heap_alloc _ _ _ (by simp;omega),Below.heap_alloc _ _ _ (by simp)]
  exact heap_alloc_last _ _⟩
 have R1:Hid (w1.heap[w.heap.size+1]?=some (.cells #[.slice none 0 0] 32 (0,0))):=by
  show _=_
  rw [C1.out _ (by omega),Below.heap_alloc _ _ _ (by simp)]
  have:=heap_alloc_last (w.alloc (.cells (vals h (.slice a1 m1 d1) (.slice a2 m2 d2)) 29)) (.cells #[.slice none 0 0] 32)
  rw [World.size_alloc] at this
  exact this
 have R2:Hid (w1.heap[w.heap.size+1+1]?=some (.cells #[.int .i64 0] 33 (0,0))):=by
  show _=_
  rw [C1.out _ (by omega)]
  have:=heap_alloc_last ((w.alloc (.cells (vals h (.slice a1 m1 d1) (.slice a2 m2 d2)) 29)).alloc (.cells #[.slice none 0 0] 32)) (.cells #[.int .i64 0] 33)
  rw [World.size_alloc,World.size_alloc] at this
  exact this
 have c1:w1.cell? ⟨w.heap.size+1,0,none⟩=some (.slice none 0 0):=by simp [World.cell?,R1.out]
 have f1:w1.frozen? ⟨w.heap.size+1,0,none⟩=false:=by simp [World.frozen?,R1.out]
 have c2:w1.cell? ⟨w.heap.size+1+1,0,none⟩=some (.int .i64 0):=by simp [World.cell?,R2.out]
 have f2:w1.frozen? ⟨w.heap.size+1+1,0,none⟩=false:=by simp [World.frozen?,R2.out]
 clear hb1 ck
 by_cases e0:E=0
 ·have ne0:(E != 0)=false:=by simpa using e0
  obtain ⟨hi,hw0⟩:IsV n x∧Win n x:=by
   rcases hE'.out with ⟨q,_⟩|⟨q,_⟩|⟨_,q1,q2⟩
   ·omega
   ·omega
   ·exact ⟨q1,q2⟩
  have vk:=hide (fun W (b:Below w.heap.size w W) i (hi2:w.heap.size≤i)(y:WB W i [])=>xlay n x (.slice a1 m1 d1) (.slice a2 m2 d2) w W i ⟨hr'.out.rd,⟨hi,hw0.1,hg'.out⟩,hi2,b,ht'.out,gz'.out⟩ y)
  rw [hh'.out] at vk
  simp only [vals] at vk
  obtain ⟨v0,v1,v2,v3,v4,v5,v6,v7,v8⟩:=V1.out.cells
  have e0':=hide e0
  clear e0 hi hw0
  have zz1:w.heap.size<w1.heap.size:=by omega
  have zz2:w.heap.size+1<w1.heap.size:=by omega
  go_wp2_with (go_at_call 24;refine Sto.out ?_)
  refine Sto.mk ((vk.out _ (below_al B1.out) w1.heap.size (by omega) ⟨.slice none 0 0,heap_alloc_last _ _,own_nil _ _⟩).mono ?_)
  rintro e w2 hw
  have R1':Hid (w2.heap[w.heap.size+1]?=some (.cells #[.slice none 0 0] 32 (0,0))):=by show _=_;rw [hw.1.1.block _ (by omega),Below.heap_alloc _ _ _ (by omega)];exact R1.out
  have R2':Hid (w2.heap[w.heap.size+1+1]?=some (.cells #[.int .i64 0] 33 (0,0))):=by show _=_;rw [hw.1.1.block _ (by omega),Below.heap_alloc _ _ _ (by omega)];exact R2.out
  have B2:Hid (Below w.heap.size w w2):=(below_al B1.out).trans (hw.1.1.mono (by omega))
  clear c1 f1 c2 f2 v0 v1 v2 v3 v4 v5 v6 v7 v8
  have c1:w2.cell? ⟨w.heap.size+1,0,none⟩=some (.slice none 0 0):=by simp [World.cell?,R1'.out]
  have f1:w2.frozen? ⟨w.heap.size+1,0,none⟩=false:=by simp [World.frozen?,R1'.out]
  have c2:w2.cell? ⟨w.heap.size+1+1,0,none⟩=some (.int .i64 0):=by simp [World.cell?,R2'.out]
  have f2:w2.frozen? ⟨w.heap.size+1+1,0,none⟩=false:=by simp [World.frozen?,R2'.out]
  have n12:w.heap.size+1≠w.heap.size+1+1:=by omega
  obtain ⟨hf,⟨q1,rfl,v',hv',ho'⟩|⟨q1,rfl⟩⟩:=hw
  ·obtain ⟨b1,b2,b3,rfl⟩:∃ b1 b2 b3,v'=.slice b1 b2 b3:=by
    rcases ho'.2 with ⟨rfl,e⟩|⟨g,cap,cur,rfl,_⟩
    ·exact ⟨_,_,_,rfl⟩
    ·exact ⟨_,_,_,rfl⟩
   have c3:w2.cell? ⟨w1.heap.size,0,none⟩=some (.slice b1 b2 b3):=by simp [World.cell?,hv']
   have O2:=hide ho'
   have Q1:=hide q1
   clear hf hv' ho' q1
   go_wp2_with fail
   refine leaves_cons (f:=39) (args:=#[.pointer (some ⟨w.heap.size+1,0,none⟩),.pointer (some ⟨w.heap.size+1+1,0,none⟩)]) (by simp) (by simp [go_sem]) ?_
   refine (wcatch_idle ⟨w.heap.size+1,0,none⟩ ⟨w.heap.size+1+1,0,none⟩ _).mono ?_
   rintro e u' w'' ⟨rfl,rfl,rfl⟩
   simp [Leaves,settle,results,Tryz.results23,go_sem, *]
   have hbb:Below w.heap.size w ((w2.setCell ⟨w.heap.size+1,0,none⟩ (.slice b1 b2 b3)).setCell ⟨w.heap.size+1+1,0,none⟩ (.int .i64 0)):=(B2.out.setCell (p:=⟨w.heap.size+1,0,none⟩) (show w.heap.size≤w.heap.size+1 by omega) _).setCell (p:=⟨w.heap.size+1+1,0,none⟩) (show w.heap.size≤w.heap.size+1+1 by omega) _
   refine ⟨hbb,fun q=>absurd e0'.out q,fun _=>⟨fun _=>⟨b1,b2,b3,rfl,?_⟩,fun q=>(by have:=Q1.out;simp at this;omega)⟩⟩
   have ho:=O2.out
   rw [List.nil_append] at ho
   have hlt:=World.ownsRow.lt ho
   refine ownsRow_of (ownsRow_low ho (by omega)) fun g e hg=>?_
   have:=(hlt g e).1
   rw [heap_set_ne (by omega),heap_set_ne (by omega)]
  ·have Q1:=hide q1
   clear hf q1
   go_wp2_with fail
   unfold pan
   refine leaves_cons (f:=39) (args:=#[.pointer (some ⟨w.heap.size+1,0,none⟩),.pointer (some ⟨w.heap.size+1+1,0,none⟩)]) (by simp) (by simp [go_sem]) ?_
   refine (wcatch_pan ⟨w.heap.size+1,0,none⟩ ⟨w.heap.size+1+1,0,none⟩ 0 (.slice none 0 0) [] _ c1 f1 c2 f2 (by simp) 2).mono ?_
   rintro e u' w'' ⟨rfl,rfl,rfl⟩
   simp [Leaves,settle,results,Tryz.results23,go_sem, *]
   have hbb:Below w.heap.size w ((w2.setCell ⟨w.heap.size+1,0,none⟩ (.slice none 0 0)).setCell ⟨w.heap.size+1+1,0,none⟩ (.int .i64 2)):=(B2.out.setCell (p:=⟨w.heap.size+1,0,none⟩) (show w.heap.size≤w.heap.size+1 by omega) _).setCell (p:=⟨w.heap.size+1+1,0,none⟩) (show w.heap.size≤w.heap.size+1+1 by omega) _
   exact ⟨hbb,fun q=>absurd e0'.out q,fun _=>⟨fun q=>(by have:=Q1.out;simp at this;omega),fun _=>rfl⟩⟩
 ·have ne0:(E != 0)=true:=by simpa using e0
  have n12:w.heap.size+1≠w.heap.size+1+1:=by omega
  go_wp2_with fail
  simp [bodyPostD,Leaves,settle,results,Tryz.results23,go_sem, *]
  have hbb:Below w.heap.size w ((w1.setCell ⟨w.heap.size+1,0,none⟩ (.slice none 0 0)).setCell ⟨w.heap.size+1+1,0,none⟩ (.int .i64 E)):=(B1.out.setCell (p:=⟨w.heap.size+1,0,none⟩) (show w.heap.size≤w.heap.size+1 by omega) _).setCell (p:=⟨w.heap.size+1+1,0,none⟩) (show w.heap.size≤w.heap.size+1+1 by omega) _
  exact ⟨hbb,fun _=>rfl,fun q=>absurd q e0⟩
set_option maxRecDepth 100000 in
theorem xwrite_any (n:Nat)(x:VT n)(ns ls:Value)(w:World)(hr:Rdy n w x ns ls)(hg:Rg n x)(g:Ut.Gu w)(ht:Tab w.heap.size w)(gz:Gz w)(E:Int)(hE:Chk n x E) :
  Calls Tryz.prog 10 #[.agg (vals (vhd n x) ns ls)] w fun e w'=>JW n x E w e w':=by
 have hmf:∀ (fn:Fn)(first cap:Array Value) (w:World),(Instr.makeFunc fn first cap).run Tryz.prog w=.ok (.func fn first cap) w:=fun _ _ _ _=>rfl
 have C:=hide (fun o=>swrite_any n x ns ls (w.alloc o) (hr.below (below_al (Below.refl _ _))) hg (g.below (below_al (Below.refl _ _))) (Tab.of1 ht (below_al (Below.refl _ _))) (gz.low (below_al (Below.refl _ _)) gz.low8) E hE)
 obtain ⟨a1,m1,d1,a2,m2,d2,rfl,rfl⟩:=hr.rd.shape
 obtain ⟨h,hh⟩:∃ h,vhd n x=h:=⟨_,rfl⟩
 rw [hh] at C ⊢
 simp only [vals] at C ⊢
 clear hr hg g ht gz hE hh
 go_enter Tryz.func10, Tryz.ntmps10
 go_wp2_with (go_at_call 23;refine Sto.out ?_)
 refine Sto.mk ((C.out _).mono ?_)
 rintro e w1 hw
 obtain ⟨hb,h1,h2⟩:=hw
 have K:Hid (JW n x E w e w1):=⟨(below_al (Below.refl _ _)).trans (hb.mono (by simp)),h1,fun q=>⟨fun q2=>by
  obtain ⟨a,m,c,e1,ho⟩:=(h2 q).1 q2
  exact ⟨a,m,c,e1,ownsRow_low ho (by simp)⟩,(h2 q).2⟩⟩
 obtain ⟨u,v,rfl⟩:∃ u v,e=.returned (.tuple #[u,v]):=by
  by_cases q:E=0
  ·by_cases q2:(xtx n x).length≤65536
   ·obtain ⟨a,m,c,e1,_⟩:=(h2 q).1 q2
    exact ⟨_,_,e1⟩
   ·exact ⟨_,_,(h2 q).2 (by omega)⟩
  ·exact ⟨_,_,h1 q⟩
 clear hb h1 h2
 go_wp2_with fail
 exact bodyPost_ret (v:=.tuple #[u,v]) (by simp [results,Tryz.results10,go_sem]) rfl K.out
end Go.Proofs.YthodiandebahdaaGreatDoor
