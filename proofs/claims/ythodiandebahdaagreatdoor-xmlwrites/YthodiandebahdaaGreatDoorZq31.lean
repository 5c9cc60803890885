/- Merged by program: DaTell, DbTell, DcTell, DdTell. -/
import Derived.Test.YthodiandebahdaaGreatDoorZq30
namespace Go.Proofs.YthodiandebahdaaGreatDoor
open Go.RowKit
set_option linter.unusedSimpArgs false
set_option linter.unusedVariables false
set_option maxHeartbeats 8000000
def OB (W:World)(v v':Value):Prop:=v'.ownBlock=v.ownBlock∨∀ g,v'.ownBlock=some g→W.heap.size≤g
theorem OB.refl (W:World)(v:Value):OB W v v:=Or.inl rfl
theorem OB.trans {W W1:World} {v v1 v2:Value} (h:OB W v v1)(k:OB W1 v1 v2)(hz:W.heap.size≤W1.heap.size):OB W v v2:=by
 rcases k with k|k
 ·rcases h with h|h
  ·exact Or.inl (k.trans h)
  ·exact Or.inr fun g e=>h g (k ▸ e)
 ·exact Or.inr fun g e=>Nat.le_trans hz (k g e)
theorem OB.ne {W:World} {v v':Value} (h:OB W v v') {q:Nat} (hq:q<W.heap.size)(hv:v.ownBlock≠some q):v'.ownBlock≠some q:=by
 rcases h with h|h
 ·rw [h];exact hv
 ·intro e;have:=h q e;omega
structure Tv where
 wrong:Int
 total:Nat
 passed:Bool
 ck:Nat
 ty:Nat
 told:Value
def Tv.cells (s:Tv):Array Value:=#[.int .i64 s.wrong,.int .i64 0,.int .i64 s.total,.bool s.passed,.pointer (some ⟨s.ck,0,none⟩),.pointer (some ⟨s.ty,0,none⟩),s.told]
def TlB (W:World)(t:Nat)(s:Tv):Prop:=W.heap[t]?=some (.cells s.cells 97 (0,0))
structure TdF (t:Nat)(v:Value)(W w':World):Prop where
 below:Below t W w'
 keep:∀ q,q<W.heap.size→q≠t→v.ownBlock≠some q→w'.heap[q]?=W.heap[q]?
def TdO (t:Nat)(W w':World):Prop:=Below t W w'∧∀ q,q<W.heap.size→q≠t→w'.heap[q]?=W.heap[q]?
section
variable {W W1 W2 : World} {t : Nat} {s : Tv} {v : Value}
theorem TlB.lt (q:TlB W t s):t<W.heap.size:=(Array.getElem?_eq_some_iff.1 q).1
theorem TlB.same (q:TlB W t s)(h:W1.heap[t]?=W.heap[t]?):TlB W1 t s:=h.trans q
theorem TlB.cell (q:TlB W t s)(j:Nat):W.cell? ⟨t,j,none⟩=s.cells[j]?:=by
 unfold TlB at q
 simp [World.cell?,q]
theorem TlB.frz (q:TlB W t s)(j:Nat):W.frozen? ⟨t,j,none⟩=false:=by
 unfold TlB at q
 simp [World.frozen?,q]
theorem TlB.set (q:TlB W t s)(j:Nat)(u:Value)(s':Tv)(h:s.cells.setIfInBounds j u=s'.cells):TlB (W.setCell ⟨t,j,none⟩ u) t s':=by
 unfold TlB at q ⊢
 rw [setCell_eq_setRow W t j _ _ (0,0) _ q,setRow_heap W t _ _ _ (0,0) q,←h]
theorem TdF.refl:TdF t v W W:=⟨Below.refl _ _,fun _ _ _ _=>rfl⟩
theorem TdF.then (h:TdF t v W W1)(k:Below W1.heap.size W1 W2)(ht:t≤W1.heap.size):TdF t v W W2 :=
 ⟨h.below.trans (k.mono ht),fun q h1 h2 h3=>(k.block q (Nat.lt_of_lt_of_le h1 h.below.size)).trans (h.keep q h1 h2 h3)⟩
theorem TdF.set (h:TdF t v W W1)(j:Nat)(u:Value):TdF t v W (W1.setCell ⟨t,j,none⟩ u) :=
 ⟨h.below.setCell (p:=⟨t,j,none⟩) (Nat.le_refl _) _,fun q h1 h2 h3=>(Below.heap_setCell _ _ _ _ h2).trans (h.keep q h1 h2 h3)⟩
theorem TdF.grown (h:TdF t v W W1)(hg:W1.grownBy W2 v.ownBlock)(ht:t≤W1.heap.size)(hv:∀ k,v.ownBlock=some k→t≤k):TdF t v W W2 :=
 ⟨h.below.grown hg ht hv,fun q h1 h2 h3=>(hg.block q (Nat.lt_of_lt_of_le h1 h.below.size) (fun e=>h3 e.symm)).trans (h.keep q h1 h2 h3)⟩
theorem TdO.f (h:TdO t W W1):TdF t v W W1:=⟨h.1,fun q h1 h2 _=>h.2 q h1 h2⟩
end
structure Tl where
 total:Nat
 passed:Bool
 ck:List Pa×Bool
 tz:Nat
 tp:List Tp
 told:List Hd
 n:Nat
structure Tg where
 t:Nat
 ck:Nat
 ty:Nat
 B:Nat
 lo:Nat
structure Tm where
 told:Value
 tv:Value
def Tl.tv (st:Tl)(E0:Int)(g:Tg)(m:Tm):Tv:=⟨E0,st.total,st.passed,g.ck,g.ty,m.told⟩
structure Tk (g:Tg):Prop where
 loR:g.lo≤g.t
 loC:g.lo≤g.ck
 loT:g.lo≤g.ty
 ckB:g.ck<g.B
 low:8≤g.lo
structure TM (E0:Int)(W:World)(g:Tg)(m:Tm)(st:Tl):Prop where
 tb:TlB W g.t (st.tv E0 g m)
 told:W.ownsRow (g.t+1) 76 7 m.told st.told.length (ecs st.told)
 ck:CkS W g.ck g.B st.n (some st.ck)
 ty:TyA W g.ty g.B m.tv st.tz st.tp
 gu:Ut.Gu W
 gk:Tk g
 tl:st.told.length≤st.n
structure TF (g:Tg)(m:Tm)(W w':World):Prop where
 below:Below g.lo W w'
 keep:∀ (q:Nat)(c:Array Value)(T:TypeId)(f:Nat×Nat),W.heap[q]?=some (.cells c T f)→T≠97→T≠101→T≠123→T≠115→T≠211→m.told.ownBlock≠some q→w'.heap[q]?=some (.cells c T f)
def TP (E0:Int)(W:World)(g:Tg)(m:Tm)(o:Sum Int Tl)(e:Ending)(w':World):Prop :=
 TF g m W w'∧match o with
 | .inl E=>e=.panicked (pan E)∧∃ s,TlB w' g.t s
 | .inr st'=>e=.returned (.tuple #[])∧∃ m',TM E0 w' g m' st'∧OB W m.told m'.told
theorem cells_ty {c c':Array Value} {T T':TypeId} {f f':Nat×Nat} (h:(some (Obj.cells c T f):Option Obj)=some (.cells c' T' f')):T=T':=by
 injection h with h
 injection h
section
variable {W W1 W2 : World} {E0 : Int} {g : Tg} {m m1 m2 : Tm} {st : Tl}
theorem TF.refl:TF g m W W:=⟨Below.refl _ _,fun _ _ _ _ h _ _ _ _ _ _=>h⟩
theorem TF.trans (h:TF g m W W1)(o:OB W m.told m1.told)(k:TF g m1 W1 W2):TF g m W W2 :=
 ⟨h.below.trans k.below,fun q c T f hq t1 t2 t3 t4 t5 n1 =>
  have hl:q<W.heap.size:=(Array.getElem?_eq_some_iff.1 hq).1
  k.keep q c T f (h.keep q c T f hq t1 t2 t3 t4 t5 n1) t1 t2 t3 t4 t5 (o.ne hl n1)⟩
theorem TP.trans {o:Sum Int Tl} {e:Ending} (h:TF g m W W1)(q:OB W m.told m1.told)(k:TP E0 W1 g m1 o e W2):TP E0 W g m o e W2:=by
 refine ⟨h.trans q k.1,?_⟩
 cases o with
 | inl E=>exact k.2
 | inr st' =>
  obtain ⟨h1,m',h2,h3⟩:=k.2
  exact ⟨h1,m',h2,q.trans h3 h.below.size⟩
theorem own_blk {B T sz n k:Nat} {v:Value} {xs:List Value} (h:W.ownsRow B T sz v n xs)(hk:v.ownBlock=some k):∃ c f,W.heap[k]?=some (.cells c T f):=by
 rcases h.2 with ⟨rfl,_⟩|⟨g,cap,cur,rfl,_,hg,_⟩
 ·cases hk
 ·cases hk;exact ⟨_,_,hg⟩
theorem ty_ne {k T T':Nat} {c:Array Value} {f:Nat×Nat} {v:Value} {B sz n:Nat} {xs:List Value} (h:W.heap[k]?=some (.cells c T f))(ho:W.ownsRow B T' sz v n xs)(hT:T≠T'):v.ownBlock≠some k:=by
 intro e
 obtain ⟨c',f',h'⟩:=own_blk ho e
 rw [h] at h'
 cases h'
 exact hT rfl
theorem Ck.keep {i B:Nat} {v:Value} {ps:List Pt} {b1 b2:Bool} (h:Ck W i B v ps b1 b2)(hz:W.heap.size≤W1.heap.size)(hk:∀ q,q<W.heap.size→Ty W q→W1.heap[q]?=W.heap[q]?):Ck W1 i B v ps b1 b2 :=
 {h with kb:=h.kb.same (hk i h.kb.lt h.kb.ty),row:=own_of h.row fun k hk' hl=>hk k hl (own_ty h.row k hk'),ok:=fun p hp=>(h.ok p hp).of fun b e=>hk b ((h.ok p hp).blt b e).2 (by
   rcases h.ok p hp with ⟨_,b',e',_,h2⟩|⟨_,e',_⟩
   ·rw [e] at e';cases e';exact map_ty h2
   ·rw [e] at e';cases e'),hB:=Nat.le_trans h.hB hz}
theorem CkS.keep {i B n:Nat} {s:Option (List Pa×Bool)} (h:CkS W i B n s)(hz:W.heap.size≤W1.heap.size)(hk:∀ q,q<W.heap.size→Ty W q→W1.heap[q]?=W.heap[q]?):CkS W1 i B n s:=by
 cases s with
 | none=>exact Ck.keep h hz hk
 | some x =>
  obtain ⟨v,ps,h1,h2⟩:=h
  exact ⟨v,ps,h1.keep hz hk,h2⟩
theorem TyA.keep {t B z:Nat} {v:Value} {ps:List Tp} (h:TyA W t B v z ps)(hz:W.heap.size≤W1.heap.size)(ht:W1.heap[t]?=W.heap[t]?)(hv:∀ k,v.ownBlock=some k→W1.heap[k]?=W.heap[k]?):TyA W1 t B v z ps :=
 {h with tb:=h.tb.same ht,row:=own_of h.row fun k hk _=>hv k hk,hB:=Nat.le_trans h.hB hz}
theorem Gu.low {w w1:World} {L:Nat} (h:Ut.Gu w)(hb:Below L w w1)(hL:8≤L):Ut.Gu w1:=by
 obtain ⟨t,fr,h0⟩:=h.bt
 obtain ⟨t',fr',h1⟩:=h.lg
 exact ⟨⟨t,fr,by rw [hb.block _ (by omega)];exact h0⟩,⟨t',fr',by rw [hb.block _ (by omega)];exact h1⟩⟩
theorem ty_no {k T:Nat} {c:Array Value} {f:Nat×Nat} (h:W.heap[k]?=some (.cells c T f))(h1:T≠101)(h2:T≠123):¬ Ty W k:=fun t=>(t c T f h).elim h1 h2
theorem TM.lt (h:TM E0 W g m st):g.t<W.heap.size:=h.tb.lt
theorem TM.then (h:TM E0 W g m st)(hb:Below W.heap.size W W1):TM E0 W1 g m st :=
 {h with tb:=h.tb.same (hb.block _ h.tb.lt),told:=own_of h.told fun k _ hk=>hb.block k hk,ck:=h.ck.then hb,ty:=h.ty.then hb,gu:=h.gu.below hb}
theorem TM.lo (h:TM E0 W g m st):g.lo≤W.heap.size:=by have:=h.lt;have:=h.gk.loR;omega
theorem TF.of (hb:Below W.heap.size W W1)(hl:g.lo≤W.heap.size):TF g m W W1:=⟨hb.mono hl,fun q c T f hq _ _ _ _ _ _=>(hb.block q (Array.getElem?_eq_some_iff.1 hq).1).trans hq⟩
theorem TM.beside (h:TM E0 W g m st)(hz:W.heap.size≤W1.heap.size)(hg:Ut.Gu W1)(hk:∀ (q:Nat)(c:Array Value)(T:TypeId)(f:Nat×Nat),W.heap[q]?=some (.cells c T f)→T=97∨T=115∨T=211∨T=76→W1.heap[q]?=W.heap[q]?)(hc:∀ q,q<W.heap.size→Ty W q→W1.heap[q]?=W.heap[q]?):TM E0 W1 g m st:=by
 have ht:=h.tb
 unfold TlB at ht
 have hy:=h.ty.tb
 unfold TyB at hy
 refine ⟨h.tb.same (hk _ _ _ _ ht (Or.inl rfl)),own_of h.told fun k hk' _=>?_,h.ck.keep hz hc,h.ty.keep hz (hk _ _ _ _ hy (Or.inr (Or.inl rfl))) fun k hk'=>?_,hg,h.gk,h.tl⟩
 ·obtain ⟨c,f,hb⟩:=own_blk h.told hk'
  exact hk _ _ _ _ hb (Or.inr (Or.inr (Or.inr rfl)))
 ·obtain ⟨c,f,hb⟩:=own_blk h.ty.row hk'
  exact hk _ _ _ _ hb (Or.inr (Or.inr (Or.inl rfl)))
theorem TM.rest (h:TM E0 W g m st)(hf:TdF g.t m.told W W1):CkS W1 g.ck g.B st.n (some st.ck)∧TyA W1 g.ty g.B m.tv st.tz st.tp∧Ut.Gu W1:=by
 have hz:=hf.below.size
 have hr:=h.tb
 unfold TlB at hr
 refine ⟨?_,?_,Gu.low h.gu hf.below (by have:=h.gk.loR;have:=h.gk.low;omega)⟩
 ·refine h.ck.keep hz fun k hl ht=>hf.keep k hl (fun e=>?_) (fun e=>?_)
  ·subst e;exact ty_no hr (by decide) (by decide) ht
  ·obtain ⟨c,f,hc⟩:=own_blk h.told e
   exact ty_no hc (by decide) (by decide) ht
 ·have ht:=h.ty.tb
  unfold TyB at ht
  refine h.ty.keep hz (hf.keep _ h.ty.tb.lt (fun e=>?_) (ty_ne ht h.told (by decide))) fun k hk=>?_
  ·rw [e,hr] at ht;exact absurd (cells_ty ht) (by decide)
  ·obtain ⟨c,f,hc⟩:=own_blk h.ty.row hk
   refine hf.keep k (World.ownsRow.lt h.ty.row k hk).2 (fun e=>?_) (ty_ne hc h.told (by decide))
   rw [e,hr] at hc;exact absurd (cells_ty hc) (by decide)
theorem TM.ofTold (h:TM E0 W g m st) {l:List Hd} {v':Value} (hf:TdF g.t m.told W W1)(hr:TlB W1 g.t (({st with told:=l}:Tl).tv E0 g {m with told:=v' }))(ho:W1.ownsRow (g.t+1) 76 7 v' l.length (ecs l))(hl:l.length≤st.n):TM E0 W1 g {m with told:=v' } {st with told:=l}:=by
 obtain ⟨k1,k2,k3⟩:=h.rest hf
 exact ⟨hr,ho,k1,k2,k3,h.gk,hl⟩
theorem TF.ofT0 (h:TM E0 W g m st)(hf:TdF g.t m.told W W1):TF g m W W1:=by
 have hr:=h.tb
 unfold TlB at hr
 refine ⟨hf.below.mono h.gk.loR,fun q c T f hq t1 t2 t3 t4 t5 n1=>?_⟩
 rw [hf.keep q (Array.getElem?_eq_some_iff.1 hq).1 (fun e=>?_) n1,hq]
 subst e
 rw [hr] at hq
 cases hq
 exact t1 rfl
theorem TM.sc (h:TM E0 W g m st) {t:Nat} {p:Bool} (hr:TlB W1 g.t (({st with total:=t,passed:=p}:Tl).tv E0 g m))(ho:TdO g.t W W1):TM E0 W1 g m {st with total:=t,passed:=p}:=by
 obtain ⟨k1,k2,k3⟩:=h.rest ho.f
 exact ⟨hr,own_of h.told fun k hk hl=>ho.2 k hl (by have:=(World.ownsRow.lt h.told k hk).1;omega),k1,k2,k3,h.gk,h.tl⟩
theorem TF.ofO (h:TM E0 W g m st)(ho:TdO g.t W W1):TF g m W W1:=TF.ofT0 h ho.f
theorem own_kc {u:Value} {B T sz n:Nat} {xs:List Value} (h:W.ownsRow B T sz u n xs)(hk:KC W W1)(t1:T≠101)(t2:T≠123):W1.ownsRow B T sz u n xs :=
 own_of h fun k hk' hl=>by
  obtain ⟨c,f,hc⟩:=own_blk h hk'
  rw [hk k c T f hc t1 t2,hc]
theorem TM.ofC (h:TM E0 W g m st) {x:List Pa×Bool} (hb:BK g.ck W W1)(hc:CkS W1 g.ck g.B (st.n+1) (some x)):TM E0 W1 g m {st with ck:=x,n:=st.n+1}:=by
 have hr:=h.tb
 unfold TlB at hr
 have ht:=h.ty.tb
 unfold TyB at ht
 refine ⟨hb.kc _ _ _ _ hr (by decide) (by decide),own_kc h.told hb.kc (by decide) (by decide),hc,?_,Gu.low h.gu hb.below (by have:=h.gk.loC;have:=h.gk.low;omega),h.gk,Nat.le_succ_of_le h.tl⟩
 exact {h.ty with tb:=hb.kc g.ty _ _ _ ht (by decide) (by decide),row:=own_kc h.ty.row hb.kc (by decide) (by decide),hB:=Nat.le_trans h.ty.hB hb.below.size}
theorem TM.tbC (h:TM E0 W g m st)(hb:BK g.ck W W1):TlB W1 g.t (st.tv E0 g m):=by
 have hr:=h.tb
 unfold TlB at hr
 exact hb.kc _ _ _ _ hr (by decide) (by decide)
theorem TF.ofC (h:TM E0 W g m st)(hb:BK g.ck W W1):TF g m W W1:=⟨hb.below.mono h.gk.loC,fun q c T f hq t1 t2 t3 _ _ _=>hb.kc q c T f hq t2 t3⟩
theorem tyf_keep (h:TyA W g.ty g.B m.tv st.tz st.tp)(hf:TyF g.ty m.tv W W1) {q:Nat} {c:Array Value} {T:TypeId} {f:Nat×Nat} (hq:W.heap[q]?=some (.cells c T f))(t1:T≠115)(t2:T≠211):W1.heap[q]?=some (.cells c T f):=by
 have ht:=h.tb
 unfold TyB at ht
 rw [hf.keep q (Array.getElem?_eq_some_iff.1 hq).1 (fun e=>?_) (ty_ne hq h.row t2),hq]
 subst e
 rw [ht] at hq
 cases hq
 exact t1 rfl
theorem own_tyf {u:Value} {B T sz n:Nat} {xs:List Value} (h:W.ownsRow B T sz u n xs)(k:TyA W g.ty g.B m.tv st.tz st.tp)(hf:TyF g.ty m.tv W W1)(t1:T≠115)(t2:T≠211):W1.ownsRow B T sz u n xs :=
 own_of h fun j hj hl=>by
  obtain ⟨c,f,hc⟩:=own_blk h hj
  rw [tyf_keep k hf hc t1 t2,hc]
theorem TM.ofT (h:TM E0 W g m st) {v':Value} {z':Nat} {ps':List Tp} (ha:TyA W1 g.ty g.B v' z' ps')(hf:TyF g.ty m.tv W W1):TM E0 W1 g {m with tv:=v' } {st with tz:=z',tp:=ps' }:=by
 have hr:=h.tb
 unfold TlB at hr
 have ht:=h.ty.tb
 unfold TyB at ht
 refine ⟨tyf_keep h.ty hf hr (by decide) (by decide),own_tyf h.told h.ty hf (by decide) (by decide),?_,ha,Gu.low h.gu hf.below (by have:=h.gk.loT;have:=h.gk.low;omega),h.gk,h.tl⟩
 refine h.ck.keep hf.below.size fun q hl hty=>hf.keep q hl (fun e=>?_) (fun e=>?_)
 ·subst e;exact ty_no ht (by decide) (by decide) hty
 ·obtain ⟨c,f,hc⟩:=own_blk h.ty.row e
  exact ty_no hc (by decide) (by decide) hty
theorem TF.ofT (h:TM E0 W g m st)(hf:TyF g.ty m.tv W W1):TF g m W W1:=⟨hf.below.mono h.gk.loT,fun q c T f hq _ _ _ t4 t5 _=>tyf_keep h.ty hf hq t4 t5⟩
theorem TM.shT (h:TM E0 W g m st):∃ a c,m.told=.slice a st.told.length c:=by
 rcases h.told.2 with ⟨e1,e⟩|⟨g,cap,cur,e1,_⟩
 ·exact ⟨none,0,by rw [e1,e]⟩
 ·exact ⟨_,_,e1⟩
theorem TM.push (h:TM E0 W g m st) {v v':Value} {e:Hd} (hT:m.told=v)(hb:Below W.heap.size W W1)(hg:W1.grownBy W2 v.ownBlock)(ho:W2.ownsRow (g.t+1) 76 7 v' (st.told.length+1) (ecs (st.told++[e])))(hat:v'.ownBlock=v.ownBlock∨v'.ownBlock=some W1.heap.size)(hl:st.told.length+1≤st.n) :
  TP E0 W g m (.inr {st with told:=st.told++[e]}) (.returned (.tuple #[])) (W2.setCell ⟨g.t,6,none⟩ v'):=by
 subst hT
 have hlt:=h.lt
 have hll:=World.ownsRow.lt h.told
 have F:TdF g.t m.told W (W2.setCell ⟨g.t,6,none⟩ v'):=((TdF.refl.then hb (Nat.le_of_lt hlt)).grown hg (by have:=hb.size;omega) (fun k hk=>by have:=(hll k hk).1;omega)).set 6 _
 have hr2:TlB W2 g.t (st.tv E0 g m):=(h.tb.same (hb.block _ hlt)).same (hg.block _ (by have:=hb.size;omega) (fun q=>by have:=(hll _ q.symm).1;omega))
 refine ⟨TF.ofT0 h F,rfl,{m with told:=v' },h.ofTold F (hr2.set 6 _ _ rfl) ?_ (by simpa using hl),?_⟩
 ·rw [List.length_append,List.length_singleton]
  exact own_of ho fun k hk _=>Below.heap_setCell _ _ _ _ (by have:=(World.ownsRow.lt ho k hk).1;show k≠g.t;omega)
 ·rcases hat with e|e
  ·exact Or.inl e
  ·exact Or.inr fun k hk=>by rw [e] at hk;cases hk;exact hb.size
theorem TP.then {o:Sum Int Tl} {e:Ending} (h:TP E0 W g m o e W1)(hb:Below W1.heap.size W1 W2)(hk:g.lo≤g.t):TP E0 W g m o e W2:=by
 obtain ⟨h1,h2⟩:=h
 cases o with
 | inl E =>
  obtain ⟨he,s,hs⟩:=h2
  have:=hs.lt
  refine ⟨⟨h1.below.trans (hb.mono (by omega)),fun q c T f hq t1 t2 t3 t4 t5 n1=>?_⟩,he,s,hs.same (hb.block _ hs.lt)⟩
  have:=h1.keep q c T f hq t1 t2 t3 t4 t5 n1
  rw [hb.block q (Array.getElem?_eq_some_iff.1 this).1,this]
 | inr x =>
  obtain ⟨he,m',hm,ho⟩:=h2
  have hl:=hm.lo
  refine ⟨⟨h1.below.trans (hb.mono hl),fun q c T f hq t1 t2 t3 t4 t5 n1=>?_⟩,he,m',hm.then hb,ho⟩
  have:=h1.keep q c T f hq t1 t2 t3 t4 t5 n1
  rw [hb.block q (Array.getElem?_eq_some_iff.1 this).1,this]
theorem TF.eb (h:TF g m W W1) {k:Nat} {e:Hd} (hE:EB W k e)(n1:m.told.ownBlock≠some k):EB W1 k e :=
 h.keep k _ _ _ hE (by decide) (by decide) (by decide) (by decide) (by decide) n1
theorem TM.nob (h:TM E0 W g m st) {k:Nat} (hk:W.heap.size≤k):m.told.ownBlock≠some k:=fun e=>by have:=(World.ownsRow.lt h.told k e).2;omega
end
def bnd {α β γ:Type} (o:Sum α β)(f:β→Sum α γ):Sum α γ:=match o with
 | .inl E=>.inl E
 | .inr x=>f x
def tellT (E0:Int)(st:Tl)(e:Hd):Sum Int Tl :=
 match feedE (some st.ck) (mayB e) e with
 | none=>.inl E0
 | some x=>match takeT st.tz st.tp e with
  | none=>if 16<st.total then .inl 2 else .inr {st with ck:=x,passed:=true,n:=st.n+1}
  | some y=>.inr {st with ck:=x,tz:=y.1,tp:=y.2,n:=st.n+1,told:=if st.passed then st.told else st.told++[e]}
def passT (st:Tl):Sum Int Tl:=if 16<st.total then .inl 2 else .inr {st with passed:=true}
def countT (st:Tl):Sum Int Tl:=if st.passed=true∨65536<st.total+1 then passT {st with total:=st.total+1} else .inr {st with total:=st.total+1}
def tl0:Tl:=⟨0,false,([],false),0,[],[],0⟩
section
variable {W W1 W2 : World} {t : Nat} {s : Tv}
theorem pass_any (h:TlB W t s):Calls Tryz.prog 86 #[.pointer (some ⟨t,0,none⟩)] W fun e w' =>
  if 16<s.total then e=.panicked (pan 2)∧w'=W else e=.returned (.tuple #[])∧TlB w' t {s with passed:=true}∧TdO t W w':=by
 have H:=hide h
 have c1:W.cell? ⟨t,2,none⟩=some (.int .i64 s.total):=(h.cell 2).trans rfl
 have c2:W.cell? ⟨t,3,none⟩=some (.bool s.passed):=(h.cell 3).trans rfl
 have f2:W.frozen? ⟨t,3,none⟩=false:=h.frz 3
 clear h
 by_cases ht:16<s.total
 ·simp only [ht,if_true]
  have d:decide ((16:Int)<(s.total:Int))=true:=by simp;omega
  clear ht
  go_enter Tryz.func86, Tryz.ntmps86
  go_wp2_with fail
  exact ⟨rfl,rfl,rfl⟩
 ·simp only [ht,if_false]
  have d:decide ((16:Int)<(s.total:Int))=false:=by simp;omega
  clear ht
  go_enter Tryz.func86, Tryz.ntmps86
  go_wp2
  go_end0
  exact ⟨rfl,H.out.set 3 _ _ rfl,(Below.refl t W).setCell (p:=⟨t,3,none⟩) (Nat.le_refl _) _,fun q _ hq=>Below.heap_setCell _ _ _ _ hq⟩
end
section
variable {W W1 W2 : World} {E0 : Int} {g : Tg} {m : Tm} {st : Tl}
theorem pass_t (h:TM E0 W g m st):Calls Tryz.prog 86 #[.pointer (some ⟨g.t,0,none⟩)] W fun e w'=>TP E0 W g m (passT st) e w':=(pass_any h.tb).mono (by
 intro e w' hp
 unfold passT
 by_cases hc:16<st.total
 ·rw [if_pos (show 16<(st.tv E0 g m).total from hc)] at hp
  obtain ⟨rfl,rfl⟩:=hp
  rw [if_pos hc]
  exact ⟨TF.refl,rfl,_,h.tb⟩
 ·rw [if_neg (show ¬ 16<(st.tv E0 g m).total from hc)] at hp
  rw [if_neg hc]
  exact ⟨TF.ofO h hp.2.2,hp.1,m,h.sc hp.2.1 hp.2.2,OB.refl _ _⟩)
theorem count_t (h:TM E0 W g m st)(htot:st.total≤300000):Calls Tryz.prog 58 #[.pointer (some ⟨g.t,0,none⟩)] W fun e w'=>TP E0 W g m (countT st) e w':=by
 have c1:W.cell? ⟨g.t,2,none⟩=some (.int .i64 st.total):=(h.tb.cell 2).trans rfl
 have f1:W.frozen? ⟨g.t,2,none⟩=false:=h.tb.frz 2
 have c3:W.cell? ⟨g.t,3,none⟩=some (.bool st.passed):=(h.tb.cell 3).trans rfl
 have hw:IntKind.i64.wrap ((st.total:Int)+1)=(st.total:Int)+1:=by rw [IntKind.wrap_i64] <;> omega
 have O1:TdO g.t W (W.setCell ⟨g.t,2,none⟩ (.int .i64 ((st.total:Int)+1))):=⟨(Below.refl g.t W).setCell (p:=⟨g.t,2,none⟩) (Nat.le_refl _) _,fun q _ hq=>Below.heap_setCell _ _ _ _ hq⟩
 have M1:=h.sc (W1:=W.setCell ⟨g.t,2,none⟩ (.int .i64 ((st.total:Int)+1))) (t:=st.total+1) (p:=st.passed) (h.tb.set 2 _ _ rfl) O1
 have F1:=hide (TF.ofO h O1)
 have P1:=hide (pass_t M1)
 have M1':=hide M1
 clear h O1 M1
 unfold countT
 by_cases hp:st.passed=true
 ·rw [if_pos (Or.inl hp)]
  rw [hp] at c3
  clear hp
  rcases hx:passT {st with total:=st.total+1} with E|x
  ·rw [hx] at P1
   clear hx
   go_enter Tryz.func58, Tryz.ntmps58
   go_wp2_with (go_at_call 86;refine Sto.out ?_)
   refine Sto.mk (P1.out.mono ?_)
   intro e w2 hq
   have K:=hide (TP.trans F1.out (OB.refl _ _) hq)
   obtain ⟨_,rfl,_⟩:=hq
   go_wp2_with fail
   exact ⟨rfl,K.out⟩
  ·rw [hx] at P1
   clear hx
   go_enter Tryz.func58, Tryz.ntmps58
   go_wp2_with (go_at_call 86;refine Sto.out ?_)
   refine Sto.mk (P1.out.mono ?_)
   intro e w2 hq
   have K:=hide (TP.trans F1.out (OB.refl _ _) hq)
   obtain ⟨_,rfl,_⟩:=hq
   go_wp2_with fail
   go_end0
   exact K.out
 ·have hp':st.passed=false:=by simpa using hp
  rw [hp'] at c3
  by_cases ht:65536<st.total+1
  ·rw [if_pos (Or.inr ht)]
   have d:decide ((65536:Int)<(st.total:Int)+1)=true:=by simp;omega
   clear hp hp' ht
   rcases hx:passT {st with total:=st.total+1} with E|x
   ·rw [hx] at P1
    clear hx
    go_enter Tryz.func58, Tryz.ntmps58
    go_wp2_with (go_at_call 86;refine Sto.out ?_)
    refine Sto.mk (P1.out.mono ?_)
    intro e w2 hq
    have K:=hide (TP.trans F1.out (OB.refl _ _) hq)
    obtain ⟨_,rfl,_⟩:=hq
    go_wp2_with fail
    exact ⟨rfl,K.out⟩
   ·rw [hx] at P1
    clear hx
    go_enter Tryz.func58, Tryz.ntmps58
    go_wp2_with (go_at_call 86;refine Sto.out ?_)
    refine Sto.mk (P1.out.mono ?_)
    intro e w2 hq
    have K:=hide (TP.trans F1.out (OB.refl _ _) hq)
    obtain ⟨_,rfl,_⟩:=hq
    go_wp2_with fail
    go_end0
    exact K.out
  ·rw [if_neg (by rintro (q|q);exact hp q;exact ht q)]
   have d:decide ((65536:Int)<(st.total:Int)+1)=false:=by simp;omega
   clear hp hp' ht
   go_enter Tryz.func58, Tryz.ntmps58
   go_wp2_with fail
   go_end0
   exact ⟨F1.out,rfl,m,M1'.out,OB.refl _ _⟩
end
theorem news7 (w W:World)(T:TypeId)(e:Hd)(hW:W.heap=(w.alloc (.cells (evs e) T)).heap):∀ j u,(evs e).toList[j]?=some u→W.cell? ⟨w.heap.size,j,none⟩=some u:=by
 intro j u hj
 have q:W.heap[w.heap.size]?=some (.cells (evs e) T (0,0)):=by rw [hW];exact heap_alloc_new _ _
 unfold World.cell?
 rw [q]
 show (evs e)[j]?=some u
 rw [←hj,Array.getElem?_toList]
section
variable {W W1 W2 : World} {E0 : Int} {g : Tg} {m : Tm} {st : Tl}
theorem feed_q {k:Nat} {w1:World} (h1:TM E0 w1 g m st)(e:Hd)(hz:EvZ e)(hn:st.n≤200000)(hE:EB w1 k e)(NB:m.told.ownBlock≠some k):Calls Tryz.prog 35 #[.pointer (some ⟨g.ck,0,none⟩),.agg (evs e)] w1 fun q w'=>q=.returned (.int .i64 (if (feedE (some st.ck) (mayB e) e).isSome then 0 else 50))∧TF g m w1 w'∧EB w' k e∧TlB w' g.t (st.tv E0 g m)∧∀ x,feedE (some st.ck) (mayB e) e=some x→TM E0 w' g m {st with ck:=x,n:=st.n+1}:=by
 have hck:g.ck<w1.heap.size:=by
  obtain ⟨v,ps,hh,_⟩:=(show CkA w1 g.ck g.B st.n st.ck.1 st.ck.2 from h1.ck)
  exact hh.kb.lt
 refine (cfeed_k (some st.ck) e hz h1.ck hck h1.gk.ckB h1.ty.hB hn h1.gu (mayB e) (mayB_iff e)).mono ?_
 rintro q w2 ⟨h2,h3,h4⟩
 refine ⟨h2,TF.ofC h1 h4,(TF.ofC h1 h4).eb hE NB,h1.tbC h4,fun x hx=>?_⟩
 rw [hx] at h3
 exact h1.ofC h4 h3
theorem tally_q {k:Nat} {w1:World} (h1:TM E0 w1 g m st)(e:Hd)(hE:EB w1 k e)(NB:m.told.ownBlock≠some k):Calls Tryz.prog 148 #[.pointer (some ⟨g.ty,0,none⟩),.agg (evs e)] w1 fun q w'=>q=.returned (.int .i64 (match takeT st.tz st.tp e with|none=>2|some _=>0))∧TF g m w1 w'∧EB w' k e∧∃ m2,TM E0 w' g m2 {st with tz:=((takeT st.tz st.tp e).getD (st.tz,st.tp)).1,tp:=((takeT st.tz st.tp e).getD (st.tz,st.tp)).2}∧OB w1 m.told m2.told :=
 (taken e h1.ty).mono (by
  rintro q w2 ⟨rfl,v',p1,p2⟩
  exact ⟨rfl,TF.ofT h1 p2,(TF.ofT h1 p2).eb hE NB,_,h1.ofT p1 p2,OB.refl _ _⟩)
set_option maxRecDepth 100000 in
theorem tell_a (h:TM E0 W g m st)(e:Hd)(hz:EvZ e)(hn:st.n≤200000)(hf:feedE (some st.ck) (mayB e) e=none):Calls Tryz.prog 128 #[.pointer (some ⟨g.t,0,none⟩),.agg (evs e)] W fun q w'=>TP E0 W g m (.inl E0) q w':=by
 have hlt:=h.lt
 obtain ⟨W0,hW0⟩:∃ W0,W0=W.alloc (.cells (evs e) 76):=⟨_,rfl⟩
 have B0:Hid (Below W.heap.size W W0):=by rw [hW0];exact below_al (Below.refl _ _)
 have EE0:Hid (EB W0 W.heap.size e):=by rw [hW0];exact EB.new W e
 have M0:=hide (h.then B0.out)
 have NB:=hide (h.nob (Nat.le_refl _))
 have lo:=hide h.lo
 have gk:=hide h.gk
 clear h
 obtain ⟨k,hk⟩:∃ k,W.heap.size=k:=⟨_,rfl⟩
 rw [hk] at EE0 NB
 have FE:=hide (fun w1 (h1:TM E0 w1 g m st)(hE:EB w1 k e)=>feed_q h1 e hz hn hE NB.out)
 rw [hf] at FE
 simp only [evs] at FE hW0 ⊢
 have c12:W0.cell? ⟨g.t,4,none⟩=some (.pointer (some ⟨g.ck,0,none⟩)):=(M0.out.tb.cell 4).trans rfl
 obtain ⟨d0,d1,d2,d3,d4,d5,d6⟩:=EE0.out.cells
 clear hf hn hz
 go_enter Tryz.func128, Tryz.ntmps128
 go_wp2
 rw [←hW0]
 clear hW0
 go_region_with (go_at_call 35;refine (FE.out _ (M0.out.then (by repeat (first|exact Below.refl _ _|refine Below.drew ?_|refine below_al ?_))) (EE0.out.below (by repeat (first|exact Below.refl _ _|refine Below.drew ?_|refine below_al ?_)))).mono ?_;rintro e w1 ⟨rfl,hp1,hp2,hp3,_⟩;have c0:w1.cell? ⟨g.t,0,none⟩=some (.int .i64 E0):=(hp3.cell 0).trans rfl;have F1:Hid (TF g m W w1):=(TF.of (below_then B0.out (by repeat (first|exact Below.refl _ _|refine Below.drew ?_|refine below_al ?_))) lo.out).trans (OB.refl _ _) hp1;have R1:=hide hp3;clear hp1 hp2 hp3)
 all_goals
  go_wp2_with fail
  exact ⟨rfl,F1.out,rfl,_,R1.out⟩
end
section
variable {W W1 W2 : World} {E0 : Int} {g : Tg} {m : Tm} {st : Tl}
set_option maxRecDepth 100000 in
theorem tell_b (h:TM E0 W g m st)(e:Hd)(hz:EvZ e)(hn:st.n≤200000) {x:List Pa×Bool} (hf:feedE (some st.ck) (mayB e) e=some x)(ht:takeT st.tz st.tp e=none)(h16:16<st.total):Calls Tryz.prog 128 #[.pointer (some ⟨g.t,0,none⟩),.agg (evs e)] W fun q w'=>TP E0 W g m (.inl 2) q w':=by
 have hlt:=h.lt
 obtain ⟨W0,hW0⟩:∃ W0,W0=W.alloc (.cells (evs e) 76):=⟨_,rfl⟩
 have B0:Hid (Below W.heap.size W W0):=by rw [hW0];exact below_al (Below.refl _ _)
 have EE0:Hid (EB W0 W.heap.size e):=by rw [hW0];exact EB.new W e
 have M0:=hide (h.then B0.out)
 have NB:=hide (h.nob (Nat.le_refl _))
 have lo:=hide h.lo
 have gk:=hide h.gk
 clear h
 obtain ⟨k,hk⟩:∃ k,W.heap.size=k:=⟨_,rfl⟩
 rw [hk] at EE0 NB
 have FE2:Hid (∀ w1,TM E0 w1 g m st→EB w1 k e→Calls Tryz.prog 35 #[.pointer (some ⟨g.ck,0,none⟩),.agg (evs e)] w1 fun q w'=>q=.returned (.int .i64 0)∧TF g m w1 w'∧EB w' k e∧TM E0 w' g m {st with ck:=x,n:=st.n+1}):=fun w1 h1 hE=>(feed_q h1 e hz hn hE NB.out).mono (by
  rintro q w2 ⟨h1,h2,h3,_,h4⟩
  rw [hf] at h1
  exact ⟨h1,h2,h3,h4 x hf⟩)
 have TK2:Hid (∀ w1,TM E0 w1 g m {st with ck:=x,n:=st.n+1}→EB w1 k e→Calls Tryz.prog 148 #[.pointer (some ⟨g.ty,0,none⟩),.agg (evs e)] w1 fun q w'=>q=.returned (.int .i64 2)∧TF g m w1 w'∧EB w' k e∧∃ m2,TM E0 w' g m2 {st with ck:=x,n:=st.n+1}∧OB w1 m.told m2.told):=fun w1 h1 hE=>(tally_q h1 e hE NB.out).mono (by
  intro q w2 hp
  simp only [ht,Option.getD_none] at hp
  exact hp)
 clear ht hf hn hz
 have PA:Hid (∀ w1 m2,TM E0 w1 g m2 {st with ck:=x,n:=st.n+1}→Calls Tryz.prog 86 #[.pointer (some ⟨g.t,0,none⟩)] w1 fun q w'=>q=.panicked (pan 2)∧w'=w1):=fun w1 m2 h1=>(pass_any h1.tb).mono (by
  intro q w' hp
  rw [if_pos (show 16<(({st with ck:=x,n:=st.n+1}:Tl).tv E0 g m2).total from h16)] at hp
  exact hp)
 clear h16
 obtain ⟨d0,d1,d2,d3,d4,d5,d6⟩:=EE0.out.cells
 have c12:W0.cell? ⟨g.t,4,none⟩=some (.pointer (some ⟨g.ck,0,none⟩)):=(M0.out.tb.cell 4).trans rfl
 simp only [evs] at FE2 TK2 hW0 ⊢
 go_enter Tryz.func128, Tryz.ntmps128
 go_wp2
 rw [←hW0]
 clear hW0
 go_region_with (go_at_call 35;refine (FE2.out _ (M0.out.then (by repeat (first|exact Below.refl _ _|refine Below.drew ?_|refine below_al ?_))) (EE0.out.below (by repeat (first|exact Below.refl _ _|refine Below.drew ?_|refine below_al ?_)))).mono ?_;rintro q w1 ⟨rfl,hp1,hp2,hp3⟩;have F1:Hid (TF g m W w1):=(TF.of (below_then B0.out (by repeat (first|exact Below.refl _ _|refine Below.drew ?_|refine below_al ?_))) lo.out).trans (OB.refl _ _) hp1;have M1:=hide hp3;have E1:=hide hp2;have d13:w1.cell? ⟨g.t,5,none⟩=some (.pointer (some ⟨g.ty,0,none⟩)):=(hp3.tb.cell 5).trans rfl;have hb:=hp2.cells;clear hp1 hp2 hp3)
 all_goals
  obtain ⟨a0,a1,a2,a3,a4,a5,a6⟩:=hb
  clear d0 d1 d2 d3 d4 d5 d6 c12
  go_wp2
  go_region_with (go_at_call 148;refine (TK2.out _ (M1.out.then (by repeat (first|exact Below.refl _ _|refine Below.drew ?_|refine below_al ?_))) (E1.out.below (by repeat (first|exact Below.refl _ _|refine Below.drew ?_|refine below_al ?_)))).mono ?_;rintro q w2 ⟨rfl,hp1,hp2,m2,hp3,hp4⟩;have F2:Hid (TF g m W w2):=F1.out.trans (OB.refl _ _) ((TF.of (by repeat (first|exact Below.refl _ _|refine Below.drew ?_|refine below_al ?_)) M1.out.lo).trans (OB.refl _ _) hp1);have O2:Hid (OB W m.told m2.told):=(OB.refl _ _).trans hp4 F1.out.below.size;have M2:=hide hp3;have E2:=hide hp2;clear hp1 hp2 hp3 hp4)
  all_goals
   go_wp2_with (go_at_call 86;refine (PA.out _ _ M2.out).mono ?_;rintro q w3 ⟨rfl,hw3⟩;have hws:=hw3.symm;clear hw3;subst hws)
   exact ⟨rfl,F2.out,rfl,_,M2.out.tb⟩
set_option maxRecDepth 100000 in
theorem tell_c (h:TM E0 W g m st)(e:Hd)(hz:EvZ e)(hn:st.n≤200000) {x:List Pa×Bool} (hf:feedE (some st.ck) (mayB e) e=some x)(ht:takeT st.tz st.tp e=none)(h16:¬ 16<st.total):Calls Tryz.prog 128 #[.pointer (some ⟨g.t,0,none⟩),.agg (evs e)] W fun q w'=>TP E0 W g m (.inr {st with ck:=x,passed:=true,n:=st.n+1}) q w':=by
 have hlt:=h.lt
 obtain ⟨W0,hW0⟩:∃ W0,W0=W.alloc (.cells (evs e) 76):=⟨_,rfl⟩
 have B0:Hid (Below W.heap.size W W0):=by rw [hW0];exact below_al (Below.refl _ _)
 have EE0:Hid (EB W0 W.heap.size e):=by rw [hW0];exact EB.new W e
 have M0:=hide (h.then B0.out)
 have NB:=hide (h.nob (Nat.le_refl _))
 have lo:=hide h.lo
 have gk:=hide h.gk
 clear h
 obtain ⟨k,hk⟩:∃ k,W.heap.size=k:=⟨_,rfl⟩
 rw [hk] at EE0 NB
 have FE2:Hid (∀ w1,TM E0 w1 g m st→EB w1 k e→Calls Tryz.prog 35 #[.pointer (some ⟨g.ck,0,none⟩),.agg (evs e)] w1 fun q w'=>q=.returned (.int .i64 0)∧TF g m w1 w'∧EB w' k e∧TM E0 w' g m {st with ck:=x,n:=st.n+1}):=fun w1 h1 hE=>(feed_q h1 e hz hn hE NB.out).mono (by
  rintro q w2 ⟨h1,h2,h3,_,h4⟩
  rw [hf] at h1
  exact ⟨h1,h2,h3,h4 x hf⟩)
 have TK2:Hid (∀ w1,TM E0 w1 g m {st with ck:=x,n:=st.n+1}→EB w1 k e→Calls Tryz.prog 148 #[.pointer (some ⟨g.ty,0,none⟩),.agg (evs e)] w1 fun q w'=>q=.returned (.int .i64 2)∧TF g m w1 w'∧EB w' k e∧∃ m2,TM E0 w' g m2 {st with ck:=x,n:=st.n+1}∧OB w1 m.told m2.told):=fun w1 h1 hE=>(tally_q h1 e hE NB.out).mono (by
  intro q w2 hp
  simp only [ht,Option.getD_none] at hp
  exact hp)
 clear ht hf hn hz
 have PA:Hid (∀ w1 m2,TM E0 w1 g m2 {st with ck:=x,n:=st.n+1}→Calls Tryz.prog 86 #[.pointer (some ⟨g.t,0,none⟩)] w1 fun q w'=>q=.returned (.tuple #[])∧TF g m2 w1 w'∧TM E0 w' g m2 {st with ck:=x,n:=st.n+1,passed:=true}):=fun w1 m2 h1=>(pass_any h1.tb).mono (by
  intro q w' hp
  rw [if_neg (show ¬ 16<(({st with ck:=x,n:=st.n+1}:Tl).tv E0 g m2).total from h16)] at hp
  exact ⟨hp.1,TF.ofO h1 hp.2.2,h1.sc hp.2.1 hp.2.2⟩)
 clear h16
 obtain ⟨d0,d1,d2,d3,d4,d5,d6⟩:=EE0.out.cells
 have c12:W0.cell? ⟨g.t,4,none⟩=some (.pointer (some ⟨g.ck,0,none⟩)):=(M0.out.tb.cell 4).trans rfl
 simp only [evs] at FE2 TK2 hW0 ⊢
 go_enter Tryz.func128, Tryz.ntmps128
 go_wp2
 rw [←hW0]
 clear hW0
 go_region_with (go_at_call 35;refine (FE2.out _ (M0.out.then (by repeat (first|exact Below.refl _ _|refine Below.drew ?_|refine below_al ?_))) (EE0.out.below (by repeat (first|exact Below.refl _ _|refine Below.drew ?_|refine below_al ?_)))).mono ?_;rintro q w1 ⟨rfl,hp1,hp2,hp3⟩;have F1:Hid (TF g m W w1):=(TF.of (below_then B0.out (by repeat (first|exact Below.refl _ _|refine Below.drew ?_|refine below_al ?_))) lo.out).trans (OB.refl _ _) hp1;have M1:=hide hp3;have E1:=hide hp2;have d13:w1.cell? ⟨g.t,5,none⟩=some (.pointer (some ⟨g.ty,0,none⟩)):=(hp3.tb.cell 5).trans rfl;have hb:=hp2.cells;clear hp1 hp2 hp3)
 all_goals
  obtain ⟨a0,a1,a2,a3,a4,a5,a6⟩:=hb
  clear d0 d1 d2 d3 d4 d5 d6 c12
  go_wp2
  go_region_with (go_at_call 148;refine (TK2.out _ (M1.out.then (by repeat (first|exact Below.refl _ _|refine Below.drew ?_|refine below_al ?_))) (E1.out.below (by repeat (first|exact Below.refl _ _|refine Below.drew ?_|refine below_al ?_)))).mono ?_;rintro q w2 ⟨rfl,hp1,hp2,m2,hp3,hp4⟩;have F2:Hid (TF g m W w2):=F1.out.trans (OB.refl _ _) ((TF.of (by repeat (first|exact Below.refl _ _|refine Below.drew ?_|refine below_al ?_)) M1.out.lo).trans (OB.refl _ _) hp1);have O2:Hid (OB W m.told m2.told):=(OB.refl _ _).trans hp4 F1.out.below.size;have M2:=hide hp3;have E2:=hide hp2;clear hp1 hp2 hp3 hp4)
  all_goals
   go_wp2_with (go_at_call 86;refine (PA.out _ _ M2.out).mono ?_;rintro q w3 ⟨rfl,hp1,hp2⟩;have F3:=hide hp1;have M3:=hide hp2;clear hp1 hp2;have d2:w3.cell? ⟨g.t,3,none⟩=some (.bool true):=(M3.out.tb.cell 3).trans rfl)
   go_end0
   exact ⟨F2.out.trans O2.out F3.out,rfl,m2,M3.out,O2.out⟩
end
section
variable {W W1 W2 : World} {E0 : Int} {g : Tg} {m : Tm} {st : Tl}
set_option maxRecDepth 100000 in
theorem tell_d (h:TM E0 W g m st)(e:Hd)(hz:EvZ e)(hn:st.n≤200000) {x:List Pa×Bool} (hf:feedE (some st.ck) (mayB e) e=some x) {y:Nat×List Tp} (ht:takeT st.tz st.tp e=some y)(hp:st.passed=true):Calls Tryz.prog 128 #[.pointer (some ⟨g.t,0,none⟩),.agg (evs e)] W fun q w'=>TP E0 W g m (.inr {st with ck:=x,tz:=y.1,tp:=y.2,n:=st.n+1}) q w':=by
 have hlt:=h.lt
 obtain ⟨W0,hW0⟩:∃ W0,W0=W.alloc (.cells (evs e) 76):=⟨_,rfl⟩
 have B0:Hid (Below W.heap.size W W0):=by rw [hW0];exact below_al (Below.refl _ _)
 have EE0:Hid (EB W0 W.heap.size e):=by rw [hW0];exact EB.new W e
 have M0:=hide (h.then B0.out)
 have NB:=hide (h.nob (Nat.le_refl _))
 have lo:=hide h.lo
 have gk:=hide h.gk
 clear h
 obtain ⟨k,hk⟩:∃ k,W.heap.size=k:=⟨_,rfl⟩
 rw [hk] at EE0 NB
 have FE2:Hid (∀ w1,TM E0 w1 g m st→EB w1 k e→Calls Tryz.prog 35 #[.pointer (some ⟨g.ck,0,none⟩),.agg (evs e)] w1 fun q w'=>q=.returned (.int .i64 0)∧TF g m w1 w'∧EB w' k e∧TM E0 w' g m {st with ck:=x,n:=st.n+1}):=fun w1 h1 hE=>(feed_q h1 e hz hn hE NB.out).mono (by
  rintro q w2 ⟨h1,h2,h3,_,h4⟩
  rw [hf] at h1
  exact ⟨h1,h2,h3,h4 x hf⟩)
 have TK2:Hid (∀ w1,TM E0 w1 g m {st with ck:=x,n:=st.n+1}→EB w1 k e→Calls Tryz.prog 148 #[.pointer (some ⟨g.ty,0,none⟩),.agg (evs e)] w1 fun q w'=>q=.returned (.int .i64 0)∧TF g m w1 w'∧EB w' k e∧∃ m2,TM E0 w' g m2 {st with ck:=x,n:=st.n+1,tz:=y.1,tp:=y.2}∧OB w1 m.told m2.told):=fun w1 h1 hE=>(tally_q h1 e hE NB.out).mono (by
  intro q w2 hp
  simp only [ht,Option.getD_some] at hp
  exact hp)
 clear ht hf hn hz
 have hP:=hide hp
 clear hp
 obtain ⟨d0,d1,d2,d3,d4,d5,d6⟩:=EE0.out.cells
 have c12:W0.cell? ⟨g.t,4,none⟩=some (.pointer (some ⟨g.ck,0,none⟩)):=(M0.out.tb.cell 4).trans rfl
 simp only [evs] at FE2 TK2 hW0 ⊢
 go_enter Tryz.func128, Tryz.ntmps128
 go_wp2
 rw [←hW0]
 clear hW0
 go_region_with (go_at_call 35;refine (FE2.out _ (M0.out.then (by repeat (first|exact Below.refl _ _|refine Below.drew ?_|refine below_al ?_))) (EE0.out.below (by repeat (first|exact Below.refl _ _|refine Below.drew ?_|refine below_al ?_)))).mono ?_;rintro q w1 ⟨rfl,hp1,hp2,hp3⟩;have F1:Hid (TF g m W w1):=(TF.of (below_then B0.out (by repeat (first|exact Below.refl _ _|refine Below.drew ?_|refine below_al ?_))) lo.out).trans (OB.refl _ _) hp1;have M1:=hide hp3;have E1:=hide hp2;have d13:w1.cell? ⟨g.t,5,none⟩=some (.pointer (some ⟨g.ty,0,none⟩)):=(hp3.tb.cell 5).trans rfl;have hb:=hp2.cells;clear hp1 hp2 hp3)
 all_goals
  obtain ⟨a0,a1,a2,a3,a4,a5,a6⟩:=hb
  clear d0 d1 d2 d3 d4 d5 d6 c12
  go_wp2
  go_region_with (go_at_call 148;refine (TK2.out _ (M1.out.then (by repeat (first|exact Below.refl _ _|refine Below.drew ?_|refine below_al ?_))) (E1.out.below (by repeat (first|exact Below.refl _ _|refine Below.drew ?_|refine below_al ?_)))).mono ?_;rintro q w2 ⟨rfl,hp1,hp2,m2,hp3,hp4⟩;have F2:Hid (TF g m W w2):=F1.out.trans (OB.refl _ _) ((TF.of (by repeat (first|exact Below.refl _ _|refine Below.drew ?_|refine below_al ?_)) M1.out.lo).trans (OB.refl _ _) hp1);have O2:Hid (OB W m.told m2.told):=(OB.refl _ _).trans hp4 F1.out.below.size;have M2:=hide hp3;have E2:=hide hp2;have j2:w2.cell? ⟨g.t,3,none⟩=some (.bool true):=(hp3.tb.cell 3).trans (by rw [←hP.out];rfl);clear hp1 hp2 hp3 hp4)
  all_goals
   go_wp2
   go_end0
   exact ⟨F2.out,rfl,m2,M2.out,O2.out⟩
end
end Go.Proofs.YthodiandebahdaaGreatDoor
