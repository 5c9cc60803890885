/- Merged by program: KfState, KhFun, KiTell, KiTellB, KiTellC. -/
import Derived.Test.YtpimjkdakjhoaaaGreatDoorZw31
namespace Go.Proofs.YtpimjkdakjhoaaaGreatDoor
open Go.RowKit
set_option linter.unusedSimpArgs false
set_option linter.unusedVariables false
set_option maxHeartbeats 8000000
structure St where
 total:Nat
 passed:Bool
 word:List UInt8
 q:Qa
 wait:Nat
 behind:Nat
 ks:List Int
 ck:List Pa×Bool
 tz:Nat
 tp:List Tp
 told:List Hd
 n:Nat
structure Mv where
 word:Value
 held:Value
 opn:Value
 told:Value
 tv:Value
structure Gv where
 ck:Nat
 ty:Nat
 B:Nat
 lo:Nat
def St.rv (st:St) (g:Gv) (m:Mv):Rv:=⟨st.total,st.passed,m.word,st.q.place,m.held,st.q.digits,st.q.number,st.q.high,st.wait,st.behind,m.opn,g.ck,g.ty,m.told⟩
structure Qf (q:Qa):Prop where
 len:q.held.length≤8192
 num:q.number<16 ^ q.digits
 hig:q.high=0∨(55296≤q.high∧q.high<56320)
 dig:q.digits≤4
structure Gk (r:Nat) (g:Gv):Prop where
 loR:g.lo≤r
 loC:g.lo≤g.ck
 loT:g.lo≤g.ty
 ckB:g.ck<g.B
 low:8≤g.lo
structure RM (W:World) (r:Nat) (g:Gv) (m:Mv) (st:St):Prop where
 rd:RdB W r (st.rv g m)
 word:Own W (r + 1) m.word st.word
 held:Own W (r + 1) m.held st.q.held
 dif:∀ k,m.word.ownBlock=some k→m.held.ownBlock≠some k
 opn:OwnK W (r + 1) m.opn st.ks
 told:W.ownsRow (r + 1) 74 7 m.told st.told.length (ecs st.told)
 ck:CkS W g.ck g.B st.n (some st.ck)
 ty:TyA W g.ty g.B m.tv st.tz st.tp
 gu:Ut.Gu W
 gk:Gk r g
 qf:Qf st.q
 wl:st.word.length≤512
 kl:st.ks.length≤st.n
 tl:st.told.length≤st.n
structure RF (g:Gv) (m:Mv) (W w':World):Prop where
 below:Below g.lo W w'
 keep:∀ (q:Nat) (c:Array Value) (T:TypeId) (f:Nat×Nat),W.heap[q]?=some (.cells c T f)→T≠69→T≠92→T≠115→T≠95→T≠156→T≠72→m.word.ownBlock≠some q→m.held.ownBlock≠some q→m.told.ownBlock≠some q→w'.heap[q]?=some (.cells c T f)
structure OM (W:World) (m m':Mv):Prop where
 word:OB W m.word m'.word
 held:OB W m.held m'.held
 told:OB W m.told m'.told
def RP (W:World) (r:Nat) (g:Gv) (m:Mv) (o:Sum Int St) (e:Ending) (w':World):Prop :=
 RF g m W w'∧match o with
 | .inl E=>e=.panicked (pan E)∧∃ s,RdB w' r s
 | .inr st'=>e=.returned (.tuple #[])∧∃ m',RM w' r g m' st'∧OM W m m'
theorem cells_ty {c c':Array Value} {T T':TypeId} {f f':Nat×Nat} (h:(some (Obj.cells c T f):Option Obj)=some (.cells c' T' f')):T=T':=by
 injection h with h
 injection h
section
variable {W W1 W2 : World} {r : Nat} {g : Gv} {m m1 m2 : Mv} {st : St}
theorem OM.refl (W:World) (m:Mv):OM W m m:=⟨OB.refl _ _,OB.refl _ _,OB.refl _ _⟩
theorem OM.trans (h:OM W m m1) (k:OM W1 m1 m2) (hz:W.heap.size≤W1.heap.size):OM W m m2:=⟨h.word.trans k.word hz,h.held.trans k.held hz,h.told.trans k.told hz⟩
theorem OB.ne {v v':Value} (h:OB W v v') {q:Nat} (hq:q<W.heap.size) (hv:v.ownBlock≠some q):v'.ownBlock≠some q:=by
 rcases h with h|h
 ·rw [h];exact hv
 ·intro e;have:=h q e;omega
theorem RF.refl:RF g m W W:=⟨Below.refl _ _,fun _ _ _ _ h _ _ _ _ _ _ _ _ _=>h⟩
theorem RF.trans (h:RF g m W W1) (o:OM W m m1) (k:RF g m1 W1 W2):RF g m W W2 :=
 ⟨h.below.trans k.below,fun q c T f hq t1 t2 t3 t4 t5 t6 n1 n2 n3 =>
  have hl:q<W.heap.size:=(Array.getElem?_eq_some_iff.1 hq).1
  k.keep q c T f (h.keep q c T f hq t1 t2 t3 t4 t5 t6 n1 n2 n3) t1 t2 t3 t4 t5 t6 (o.word.ne hl n1) (o.held.ne hl n2) (o.told.ne hl n3)⟩
theorem RP.trans {o:Sum Int St} {e:Ending} (h:RF g m W W1) (q:OM W m m1) (k:RP W1 r g m1 o e W2):RP W r g m o e W2:=by
 refine ⟨h.trans q k.1,?_⟩
 cases o with
 | inl E=>exact k.2
 | inr st' =>
  obtain ⟨h1,m',h2,h3⟩:=k.2
  exact ⟨h1,m',h2,q.trans h3 h.below.size⟩
theorem own_blk {B T sz n k:Nat} {v:Value} {xs:List Value} (h:W.ownsRow B T sz v n xs) (hk:v.ownBlock=some k):∃ c f,W.heap[k]?=some (.cells c T f):=by
 rcases h.2 with ⟨rfl,_⟩|⟨g,cap,cur,rfl,_,hg,_⟩
 ·cases hk
 ·cases hk;exact ⟨_,_,hg⟩
theorem ty_ne {k T T':Nat} {c:Array Value} {f:Nat×Nat} {v:Value} {B sz n:Nat} {xs:List Value} (h:W.heap[k]?=some (.cells c T f)) (ho:W.ownsRow B T' sz v n xs) (hT:T≠T'):v.ownBlock≠some k:=by
 intro e
 obtain ⟨c',f',h'⟩:=own_blk ho e
 rw [h] at h'
 cases h'
 exact hT rfl
theorem Ck.keep {i B:Nat} {v:Value} {ps:List Pt} {b1 b2:Bool} (h:Ck W i B v ps b1 b2) (hz:W.heap.size≤W1.heap.size) (hk:∀ q,q<W.heap.size→Ty W q→W1.heap[q]?=W.heap[q]?):Ck W1 i B v ps b1 b2 :=
 {h with kb:=h.kb.same (hk i h.kb.lt h.kb.ty),row:=own_of h.row fun k hk' hl=>hk k hl (own_ty h.row k hk'),ok:=fun p hp=>(h.ok p hp).of fun b e=>hk b ((h.ok p hp).blt b e).2 (by
   rcases h.ok p hp with ⟨_,b',e',_,h2⟩|⟨_,e',_⟩
   ·rw [e] at e';cases e';exact map_ty h2
   ·rw [e] at e';cases e'),hB:=Nat.le_trans h.hB hz}
theorem CkS.keep {i B n:Nat} {s:Option (List Pa×Bool)} (h:CkS W i B n s) (hz:W.heap.size≤W1.heap.size) (hk:∀ q,q<W.heap.size→Ty W q→W1.heap[q]?=W.heap[q]?):CkS W1 i B n s:=by
 cases s with
 | none=>exact Ck.keep h hz hk
 | some x =>
  obtain ⟨v,ps,h1,h2⟩:=h
  exact ⟨v,ps,h1.keep hz hk,h2⟩
theorem TyA.keep {t B z:Nat} {v:Value} {ps:List Tp} (h:TyA W t B v z ps) (hz:W.heap.size≤W1.heap.size) (ht:W1.heap[t]?=W.heap[t]?) (hv:∀ k,v.ownBlock=some k→W1.heap[k]?=W.heap[k]?):TyA W1 t B v z ps :=
 {h with tb:=h.tb.same ht,row:=own_of h.row fun k hk _=>hv k hk,hB:=Nat.le_trans h.hB hz}
theorem Gu.low {w w1:World} {L:Nat} (h:Ut.Gu w) (hb:Below L w w1) (hL:8≤L):Ut.Gu w1:=by
 obtain ⟨t,fr,h0⟩:=h.bt
 obtain ⟨t',fr',h1⟩:=h.lg
 exact ⟨⟨t,fr,by rw [hb.block _ (by omega)];exact h0⟩,⟨t',fr',by rw [hb.block _ (by omega)];exact h1⟩⟩
theorem ty_no {k T:Nat} {c:Array Value} {f:Nat×Nat} (h:W.heap[k]?=some (.cells c T f)) (h1:T≠92) (h2:T≠115):¬ Ty W k:=fun t=>(t c T f h).elim h1 h2
theorem RM.lt (h:RM W r g m st):r<W.heap.size:=h.rd.lt
theorem RM.q (h:RM W r g m st):QM W r (st.rv g m) st.q m.held:=⟨h.rd,h.held,h.qf.len,h.qf.num,h.qf.hig,h.qf.dig⟩
theorem RM.then (h:RM W r g m st) (hb:Below W.heap.size W W1):RM W1 r g m st :=
 {h with rd:=h.rd.same (hb.block r h.rd.lt),word:=own_of h.word fun k _ hk=>hb.block k hk,held:=own_of h.held fun k _ hk=>hb.block k hk,opn:=own_of h.opn fun k _ hk=>hb.block k hk,told:=own_of h.told fun k _ hk=>hb.block k hk,ck:=h.ck.then hb,ty:=h.ty.then hb,gu:=h.gu.below hb}
theorem RF.of (hb:Below W.heap.size W W1) (hl:g.lo≤W.heap.size):RF g m W W1:=⟨hb.mono hl,fun q c T f hq _ _ _ _ _ _ _ _ _=>(hb.block q (Array.getElem?_eq_some_iff.1 hq).1).trans hq⟩
theorem RM.lo (h:RM W r g m st):g.lo≤W.heap.size:=by have:=h.lt;have:=h.gk.loR;omega
theorem own_rdf {u v:Value} {B T T' sz sz' n n':Nat} {xs xs':List Value} (hr:r + 1≤B) (h:W.ownsRow B T sz u n xs) (hv:W.ownsRow B T' sz' v n' xs') (hT:T≠T') (hf:RdF r v W W1):W1.ownsRow B T sz u n xs :=
 own_of h fun k hk hl=>hf.keep k hl (by have:=(World.ownsRow.lt h k hk).1;omega) (by obtain ⟨c,f,hc⟩:=own_blk h hk;exact ty_ne hc hv hT)
theorem own_rdf2 {u v:Value} {B T sz n:Nat} {xs:List Value} (hr:r + 1≤B) (h:W.ownsRow B T sz u n xs) (hd:∀ k,u.ownBlock=some k→v.ownBlock≠some k) (hf:RdF r v W W1):W1.ownsRow B T sz u n xs :=
 own_of h fun k hk hl=>hf.keep k hl (by have:=(World.ownsRow.lt h k hk).1;omega) (hd k hk)
theorem RM.rest (h:RM W r g m st) {v:Value} {B T sz n:Nat} {xs:List Value} (hv:W.ownsRow B T sz v n xs) (t1:T≠92) (t2:T≠115) (t3:T≠95) (t4:T≠156) (hf:RdF r v W W1) :
  CkS W1 g.ck g.B st.n (some st.ck)∧TyA W1 g.ty g.B m.tv st.tz st.tp∧Ut.Gu W1:=by
 have hz:=hf.below.size
 have hr:=h.rd
 unfold RdB at hr
 refine ⟨?_,?_,Gu.low h.gu hf.below (by have:=h.gk.loR;have:=h.gk.low;omega)⟩
 ·refine h.ck.keep hz fun k hl ht=>hf.keep k hl (fun e=>?_) (fun e=>?_)
  ·subst e;exact ty_no hr (by decide) (by decide) ht
  ·obtain ⟨c,f,hc⟩:=own_blk hv e
   exact ty_no hc t1 t2 ht
 ·have ht:=h.ty.tb
  unfold TyB at ht
  refine h.ty.keep hz (hf.keep _ h.ty.tb.lt (fun e=>?_) (ty_ne ht hv (Ne.symm t3))) fun k hk=>?_
  ·rw [e,hr] at ht;exact absurd (cells_ty ht) (by decide)
  ·obtain ⟨c,f,hc⟩:=own_blk h.ty.row hk
   refine hf.keep k (World.ownsRow.lt h.ty.row k hk).2 (fun e=>?_) (ty_ne hc hv (Ne.symm t4))
   rw [e,hr] at hc;exact absurd (cells_ty hc) (by decide)
theorem RM.ofQ (h:RM W r g m st) {x:Qa} {v':Value} (hf:RdF r m.held W W1) (hq:QM W1 r (st.rv g m) x v') (ob:OB W m.held v'):RM W1 r g {m with held:=v' } {st with q:=x}:=by
 obtain ⟨k1,k2,k3⟩:=h.rest h.held (by decide) (by decide) (by decide) (by decide) hf
 exact ⟨hq.rd,own_rdf2 (Nat.le_refl _) h.word h.dif hf,hq.own,fun k hk=>ob.ne (World.ownsRow.lt h.word k hk).2 (h.dif k hk),own_rdf (Nat.le_refl _) h.opn h.held (by decide) hf,own_rdf (Nat.le_refl _) h.told h.held (by decide) hf,k1,k2,k3,h.gk,⟨hq.len,hq.num,hq.hig,hq.dig⟩,h.wl,h.kl,h.tl⟩
theorem RM.ofWord (h:RM W r g m st) {l:List UInt8} {v':Value} (hf:RdF r m.word W W1) (hr:RdB W1 r (({st with word:=l}:St).rv g {m with word:=v' })) (ho:Own W1 (r + 1) v' l) (hl:l.length≤512) (ob:OB W m.word v'):RM W1 r g {m with word:=v' } {st with word:=l}:=by
 obtain ⟨k1,k2,k3⟩:=h.rest h.word (by decide) (by decide) (by decide) (by decide) hf
 have dif2:∀ k,m.held.ownBlock=some k→m.word.ownBlock≠some k:=fun k hk e=>h.dif k e hk
 refine ⟨hr,ho,own_rdf2 (Nat.le_refl _) h.held dif2 hf,fun k hk e=>?_,own_rdf (Nat.le_refl _) h.opn h.word (by decide) hf,own_rdf (Nat.le_refl _) h.told h.word (by decide) hf,k1,k2,k3,h.gk,h.qf,hl,h.kl,h.tl⟩
 exact ob.ne (World.ownsRow.lt h.held k e).2 (dif2 k e) hk
theorem RM.ofOpn (h:RM W r g m st) {l:List Int} {v':Value} (hf:RdF r m.opn W W1) (hr:RdB W1 r (({st with ks:=l}:St).rv g {m with opn:=v' })) (ho:OwnK W1 (r + 1) v' l) (hl:l.length≤st.n):RM W1 r g {m with opn:=v' } {st with ks:=l}:=by
 obtain ⟨k1,k2,k3⟩:=h.rest h.opn (by decide) (by decide) (by decide) (by decide) hf
 exact ⟨hr,own_rdf (Nat.le_refl _) h.word h.opn (by decide) hf,own_rdf (Nat.le_refl _) h.held h.opn (by decide) hf,h.dif,ho,own_rdf (Nat.le_refl _) h.told h.opn (by decide) hf,k1,k2,k3,h.gk,h.qf,h.wl,hl,h.tl⟩
theorem RM.ofTold (h:RM W r g m st) {l:List Hd} {v':Value} (hf:RdF r m.told W W1) (hr:RdB W1 r (({st with told:=l}:St).rv g {m with told:=v' })) (ho:W1.ownsRow (r + 1) 74 7 v' l.length (ecs l)) (hl:l.length≤st.n):RM W1 r g {m with told:=v' } {st with told:=l}:=by
 obtain ⟨k1,k2,k3⟩:=h.rest h.told (by decide) (by decide) (by decide) (by decide) hf
 exact ⟨hr,own_rdf (Nat.le_refl _) h.word h.told (by decide) hf,own_rdf (Nat.le_refl _) h.held h.told (by decide) hf,h.dif,own_rdf (Nat.le_refl _) h.opn h.told (by decide) hf,ho,k1,k2,k3,h.gk,h.qf,h.wl,h.kl,hl⟩
theorem RF.ofV (h:RM W r g m st) {v:Value} (hf:RdF r v W W1) (hv:∀ (q:Nat) (c:Array Value) (T:TypeId) (f:Nat×Nat),W.heap[q]?=some (.cells c T f)→T≠72→m.word.ownBlock≠some q→m.held.ownBlock≠some q→m.told.ownBlock≠some q→v.ownBlock≠some q):RF g m W W1:=by
 have hr:=h.rd
 unfold RdB at hr
 refine ⟨hf.below.mono h.gk.loR,fun q c T f hq t1 t2 t3 t4 t5 t6 n1 n2 n3=>?_⟩
 rw [hf.keep q (Array.getElem?_eq_some_iff.1 hq).1 (fun e=>?_) (hv q c T f hq t6 n1 n2 n3),hq]
 subst e
 rw [hr] at hq
 cases hq
 exact t1 rfl
theorem RF.ofF (h:RM W r g m st) (hf:RdF r m.held W W1):RF g m W W1:=RF.ofV h hf fun _ _ _ _ _ _ _ n _=>n
theorem RF.ofWord (h:RM W r g m st) (hf:RdF r m.word W W1):RF g m W W1:=RF.ofV h hf fun _ _ _ _ _ _ n _ _=>n
theorem RF.ofTold (h:RM W r g m st) (hf:RdF r m.told W W1):RF g m W W1:=RF.ofV h hf fun _ _ _ _ _ _ _ _ n=>n
theorem RF.ofOpn (h:RM W r g m st) (hf:RdF r m.opn W W1):RF g m W W1:=RF.ofV h hf fun q c T f hq ht _ _ _=>ty_ne hq h.opn ht
theorem RM.sc (h:RM W r g m st) {t a b:Nat} {p:Bool} (hr:RdB W1 r (({st with total:=t,passed:=p,wait:=a,behind:=b}:St).rv g m)) (ho:RdO r W W1):RM W1 r g m {st with total:=t,passed:=p,wait:=a,behind:=b}:=by
 obtain ⟨k1,k2,k3⟩:=h.rest h.opn (by decide) (by decide) (by decide) (by decide) ho.f
 exact ⟨hr,own_rdf (Nat.le_refl _) h.word h.opn (by decide) ho.f,own_rdf (Nat.le_refl _) h.held h.opn (by decide) ho.f,h.dif,own_of h.opn fun k hk hl=>ho.2 k hl (by have:=(World.ownsRow.lt h.opn k hk).1;omega),own_rdf (Nat.le_refl _) h.told h.opn (by decide) ho.f,k1,k2,k3,h.gk,h.qf,h.wl,h.kl,h.tl⟩
theorem RF.ofO (h:RM W r g m st) (ho:RdO r W W1):RF g m W W1:=RF.ofF h ho.f
theorem own_kc {u:Value} {B T sz n:Nat} {xs:List Value} (h:W.ownsRow B T sz u n xs) (hk:KC W W1) (t1:T≠92) (t2:T≠115):W1.ownsRow B T sz u n xs :=
 own_of h fun k hk' hl=>by
  obtain ⟨c,f,hc⟩:=own_blk h hk'
  rw [hk k c T f hc t1 t2,hc]
theorem RM.ofC (h:RM W r g m st) {x:List Pa×Bool} (hb:BK g.ck W W1) (hc:CkS W1 g.ck g.B (st.n + 1) (some x)):RM W1 r g m {st with ck:=x,n:=st.n + 1}:=by
 have hr:=h.rd
 unfold RdB at hr
 have ht:=h.ty.tb
 unfold TyB at ht
 refine ⟨hb.kc r _ _ _ hr (by decide) (by decide),own_kc h.word hb.kc (by decide) (by decide),own_kc h.held hb.kc (by decide) (by decide),h.dif,own_kc h.opn hb.kc (by decide) (by decide),own_kc h.told hb.kc (by decide) (by decide),hc,?_,Gu.low h.gu hb.below (by have:=h.gk.loC;have:=h.gk.low;omega),h.gk,h.qf,h.wl,Nat.le_succ_of_le h.kl,Nat.le_succ_of_le h.tl⟩
 exact {h.ty with tb:=hb.kc g.ty _ _ _ ht (by decide) (by decide),row:=own_kc h.ty.row hb.kc (by decide) (by decide),hB:=Nat.le_trans h.ty.hB hb.below.size}
theorem RM.rdC (h:RM W r g m st) (hb:BK g.ck W W1):RdB W1 r (st.rv g m):=by
 have hr:=h.rd
 unfold RdB at hr
 exact hb.kc r _ _ _ hr (by decide) (by decide)
theorem RF.ofC (h:RM W r g m st) (hb:BK g.ck W W1):RF g m W W1:=⟨hb.below.mono h.gk.loC,fun q c T f hq t1 t2 t3 _ _ _ _ _ _=>hb.kc q c T f hq t2 t3⟩
theorem tyf_keep (h:TyA W g.ty g.B m.tv st.tz st.tp) (hf:TyF g.ty m.tv W W1) {q:Nat} {c:Array Value} {T:TypeId} {f:Nat×Nat} (hq:W.heap[q]?=some (.cells c T f)) (t1:T≠95) (t2:T≠156):W1.heap[q]?=some (.cells c T f):=by
 have ht:=h.tb
 unfold TyB at ht
 rw [hf.keep q (Array.getElem?_eq_some_iff.1 hq).1 (fun e=>?_) (ty_ne hq h.row t2),hq]
 subst e
 rw [ht] at hq
 cases hq
 exact t1 rfl
theorem own_tyf {u:Value} {B T sz n:Nat} {xs:List Value} (h:W.ownsRow B T sz u n xs) (k:TyA W g.ty g.B m.tv st.tz st.tp) (hf:TyF g.ty m.tv W W1) (t1:T≠95) (t2:T≠156):W1.ownsRow B T sz u n xs :=
 own_of h fun j hj hl=>by
  obtain ⟨c,f,hc⟩:=own_blk h hj
  rw [tyf_keep k hf hc t1 t2,hc]
theorem RM.ofT (h:RM W r g m st) {v':Value} {z':Nat} {ps':List Tp} (ha:TyA W1 g.ty g.B v' z' ps') (hf:TyF g.ty m.tv W W1):RM W1 r g {m with tv:=v' } {st with tz:=z',tp:=ps' }:=by
 have hr:=h.rd
 unfold RdB at hr
 have ht:=h.ty.tb
 unfold TyB at ht
 refine ⟨tyf_keep h.ty hf hr (by decide) (by decide),own_tyf h.word h.ty hf (by decide) (by decide),own_tyf h.held h.ty hf (by decide) (by decide),h.dif,own_tyf h.opn h.ty hf (by decide) (by decide),own_tyf h.told h.ty hf (by decide) (by decide),?_,ha,Gu.low h.gu hf.below (by have:=h.gk.loT;have:=h.gk.low;omega),h.gk,h.qf,h.wl,h.kl,h.tl⟩
 refine h.ck.keep hf.below.size fun q hl hty=>hf.keep q hl (fun e=>?_) (fun e=>?_)
 ·subst e;exact ty_no ht (by decide) (by decide) hty
 ·obtain ⟨c,f,hc⟩:=own_blk h.ty.row e
  exact ty_no hc (by decide) (by decide) hty
theorem RF.ofT (h:RM W r g m st) (hf:TyF g.ty m.tv W W1):RF g m W W1:=⟨hf.below.mono h.gk.loT,fun q c T f hq _ _ _ t4 t5 _ _ _ _=>tyf_keep h.ty hf hq t4 t5⟩
end
def bnd {α β γ:Type} (o:Sum α β) (f:β→Sum α γ):Sum α γ:=match o with
 | .inl E=>.inl E
 | .inr x=>f x
def tellS (st:St) (e:Hd):Sum Int St :=
 match feedE (some st.ck) (mayB e) e with
 | none=>.inl 70
 | some x=>match takeT st.tz st.tp e with
  | none=>if 16<st.total then .inl 2 else .inr {st with ck:=x,passed:=true,n:=st.n + 1}
  | some y=>.inr {st with ck:=x,tz:=y.1,tp:=y.2,n:=st.n + 1,told:=if st.passed then st.told else st.told++[e]}
def passS (st:St):Sum Int St:=if 16<st.total then .inl 2 else .inr {st with passed:=true}
def beginS (st:St) (e:Hd):Sum Int St:=bnd (tellS st e) fun x=>.inr {x with ks:=x.ks++[e.kind]}
def endS (st:St):Sum Int St:=bnd (tellS st evE) fun x=>.inr {x with ks:=x.ks.dropLast}
def endV (st:St):St:={st with wait:=endW st.ks}
def nameS (st:St) (s:ByteArray):Sum Int St:=bnd (tellS st (evN s)) fun x=>.inr {x with wait:=5,behind:=0}
def evNum (p:Bool×ByteArray×Int×Int):Hd:={zr 3 with neg:=p.1,dig:=p.2.1,exp:=p.2.2.1}
def evFlag (b:Bool):Hd:={zr 2 with flag:=b}
def evText (s:ByteArray):Hd:={zr 5 with text:=s}
def evFloat (b:Nat):Hd:={zr 4 with bits:=b}
def evBytes (s:ByteArray):Hd:={zr 6 with text:=s}
def evTag (s:ByteArray):Hd:={zr 9 with text:=s}
def numS (st:St) (s:ByteArray):Sum Int (Hd×St) :=
 if (parseF (bl s)).2.2.2=0 then .inr (evNum (parseF (bl s)),st)
 else if (parseF (bl s)).2.2.2=2 then bnd (passS st) fun x=>.inr (zr 1,x)
 else .inl 70
def nullB:ByteArray:=⟨#[110,117,108,108]⟩
def trueB:ByteArray:=⟨#[116,114,117,101]⟩
def falseB:ByteArray:=⟨#[102,97,108,115,101]⟩
def wordE (st:St) (s:ByteArray):Sum Int (Hd×St) :=
 if s=nullB then .inr (zr 1,st) else if s=trueB then .inr (evFlag true,st) else if s=falseB then .inr (evFlag false,st) else numS st s
def wordS (st:St) (s:ByteArray):Sum Int St :=
 if st.wait=0∨st.wait=1 then bnd (wordE st s) fun x=>bnd (tellS x.2 x.1) fun y=>.inr (endV y) else .inl 70
def floatN:ByteArray:=⟨#[36,102,108,111,97,116]⟩
def bytesN:ByteArray:=⟨#[36,98,121,116,101,115]⟩
def tagN:ByteArray:=⟨#[36,116,97,103]⟩
def recS (st:St) (s:ByteArray):Sum Int St:=bnd (beginS {st with wait:=5} (zr 8)) fun x=>nameS x s
def firstS (st:St) (s:ByteArray):Sum Int St :=
 if s=floatN then .inr {st with wait:=5,behind:=6}
 else if s=bytesN then .inr {st with wait:=5,behind:=7}
 else if s=tagN then .inr {st with wait:=5,behind:=8}
 else match bl s with
  | 36 :: t=>match t with
   | 36 :: _=>recS st (mkB t)
   | _=>.inl 70
  | _=>recS st s
def floatS (st:St) (s:ByteArray):Sum Int St :=
 if (funh s).2=0 then bnd (tellS st (evFloat (funh s).1)) fun x=>.inr {x with wait:=12} else .inl 70
def hx2:List UInt8→Option (List UInt8)
 | []=>some []
 | [_]=>none
 | a :: b :: l=>match hxD a,hxD b,hx2 l with
  | some x,some y,some t=>some (UInt8.ofNat (x.val * 16 + y.val) :: t)
  | _,_,_=>none
def bytesS (st:St) (s:ByteArray):Sum Int St :=
 match hx2 (bl s) with
 | none=>.inl 70
 | some l=>bnd (tellS st (evBytes (mkB l))) fun x=>.inr {x with wait:=12}
def textS (st:St) (s:ByteArray):Sum Int St :=
 if st.wait=0∨st.wait=1 then bnd (tellS st (evText s)) fun x=>.inr (endV x)
 else if st.wait=3 then firstS st s
 else if st.wait=4 then nameS st s
 else if st.wait=6 then floatS st s
 else if st.wait=7 then bytesS st s
 else if st.wait=9 then bnd (beginS st (evTag s)) fun x=>.inr {x with wait:=10}
 else .inl 70
def openL (st:St):Sum Int St :=
 if st.wait=0∨st.wait=1 then bnd (beginS st (zr 7)) fun x=>.inr {x with wait:=1}
 else if st.wait=8 then .inr {st with wait:=9} else .inl 70
def closeL (st:St):Sum Int St :=
 if st.wait=1∨(st.wait=2∧lastK st.ks=7) then bnd (endS st) fun x=>.inr (endV x)
 else if st.wait=11 then bnd (endS st) fun x=>.inr {x with wait:=12} else .inl 70
def openO (st:St):Sum Int St:=if st.wait=0∨st.wait=1 then .inr {st with wait:=3} else .inl 70
def closeO (st:St):Sum Int St :=
 if st.wait=3 then bnd (beginS st (zr 8)) fun x=>bnd (endS x) fun y=>.inr (endV y)
 else if st.wait=2∧lastK st.ks=8 then bnd (endS st) fun x=>.inr (endV x)
 else if st.wait=12 then .inr (endV st) else .inl 70
def commaS (st:St):Sum Int St :=
 if st.wait=2∧lastK st.ks=8 then .inr {st with wait:=4}
 else if st.wait=2∨st.wait=10 then .inr {st with wait:=0} else .inl 70
def colonS (st:St):Sum Int St:=if st.wait=5 then .inr {st with wait:=st.behind} else .inl 70
def markS (st:St) (c:UInt8):Sum Int St :=
 if c=34 then .inr {st with q:={st.q with place:=1} }
 else if c=91 then openL st
 else if c=93 then closeL st
 else if c=123 then openO st
 else if c=125 then closeO st
 else if c=44 then commaS st
 else if c=58 then colonS st
 else .inr st
def holdS (st:St) (c:UInt8):Sum Int St:=if st.word.length=512 then .inl 2 else .inr {st with word:=st.word++[c]}
def endWordS (st:St):Sum Int St:=if st.word=[] then .inr st else wordS {st with word:=[]} (mkB st.word)
def isMk (c:UInt8):Bool:=c==32 || c==9 || c==10 || c==13 || c==91 || c==93 || c==123 || c==125 || c==44 || c==58 || c==34
def q0:Qa:=⟨0,[],0,0,0⟩
def quoS (st:St) (c:UInt8):Sum Int St:=bnd (takeQ st.q c) fun x=>match x.1 with
 | .bool true=>bnd (textQ x.2) fun _=>textS {st with q:=q0} (mkB x.2.held)
 | _=>.inr {st with q:=x.2}
def goS (st:St) (c:UInt8):Sum Int St :=
 if st.q.place≠0 then quoS st c else if isMk c then bnd (endWordS st) fun x=>markS x c else holdS st c
def takeS (st:St) (c:UInt8):Sum Int St :=
 bnd (if st.passed=true∨65536<st.total + 1 then passS {st with total:=st.total + 1} else .inr {st with total:=st.total + 1}) fun x=>goS x c
def finS (st:St):Sum Int St:=bnd (endWordS st) fun x=>if x.wait≠13∨x.q.place≠0 then .inl 70 else if x.passed then .inl 2 else .inr x
def st0:St:=⟨0,false,[],q0,0,0,[],([],false),0,[],[],0⟩
theorem news7 (w W:World) (T:TypeId) (e:Hd) (hW:W.heap=(w.alloc (.cells (evs e) T)).heap):∀ j u,(evs e).toList[j]?=some u→W.cell? ⟨w.heap.size,j,none⟩=some u:=by
 intro j u hj
 have q:W.heap[w.heap.size]?=some (.cells (evs e) T (0,0)):=by rw [hW];exact heap_alloc_new _ _
 unfold World.cell?
 rw [q]
 show (evs e)[j]?=some u
 rw [←hj,Array.getElem?_toList]
section
variable {W W1 W2 : World} {r : Nat} {g : Gv} {m : Mv} {st : St}
theorem RM.shT (h:RM W r g m st):∃ a c,m.told=.slice a st.told.length c:=by
 rcases h.told.2 with ⟨e1,e⟩|⟨g,cap,cur,e1,_⟩
 ·exact ⟨none,0,by rw [e1,e]⟩
 ·exact ⟨_,_,e1⟩
theorem RM.push (h:RM W r g m st) {v v':Value} {e:Hd} (hT:m.told=v) (hb:Below W.heap.size W W1) (hg:W1.grownBy W2 v.ownBlock) (ho:W2.ownsRow (r + 1) 74 7 v' (st.told.length + 1) (ecs (st.told++[e]))) (hat:v'.ownBlock=v.ownBlock∨v'.ownBlock=some W1.heap.size) (hl:st.told.length + 1≤st.n) :
  RP W r g m (.inr {st with told:=st.told++[e]}) (.returned (.tuple #[])) (W2.setCell ⟨r,14,none⟩ v'):=by
 subst hT
 have hlt:=h.lt
 have hll:=World.ownsRow.lt h.told
 have F:RdF r m.told W (W2.setCell ⟨r,14,none⟩ v'):=((RdF.refl.then hb (Nat.le_of_lt hlt)).grown hg (by have:=hb.size;omega) (fun k hk=>by have:=(hll k hk).1;omega)).set 14 _
 have hr2:RdB W2 r (st.rv g m):=(h.rd.same (hb.block r hlt)).same (hg.block r (by have:=hb.size;omega) (fun q=>by have:=(hll r q.symm).1;omega))
 refine ⟨RF.ofTold h F,rfl,{m with told:=v' },h.ofTold F (hr2.set 14 _ _ rfl) ?_ (by simpa using hl),⟨OB.refl _ _,OB.refl _ _,?_⟩⟩
 ·rw [List.length_append,List.length_singleton]
  exact own_of ho fun k hk _=>Below.heap_setCell _ _ _ _ (by have:=(World.ownsRow.lt ho k hk).1;show k≠r;omega)
 ·rcases hat with e|e
  ·exact Or.inl e
  ·exact Or.inr fun k hk=>by rw [e] at hk;cases hk;exact hb.size
theorem RP.then {o:Sum Int St} {e:Ending} (h:RP W r g m o e W1) (hb:Below W1.heap.size W1 W2) (hk:g.lo≤r):RP W r g m o e W2:=by
 obtain ⟨h1,h2⟩:=h
 cases o with
 | inl E =>
  obtain ⟨he,s,hs⟩:=h2
  have:=hs.lt
  refine ⟨⟨h1.below.trans (hb.mono (by omega)),fun q c T f hq t1 t2 t3 t4 t5 t6 n1 n2 n3=>?_⟩,he,s,hs.same (hb.block r hs.lt)⟩
  have:=h1.keep q c T f hq t1 t2 t3 t4 t5 t6 n1 n2 n3
  rw [hb.block q (Array.getElem?_eq_some_iff.1 this).1,this]
 | inr x =>
  obtain ⟨he,m',hm,ho⟩:=h2
  have hl:=hm.lo
  refine ⟨⟨h1.below.trans (hb.mono hl),fun q c T f hq t1 t2 t3 t4 t5 t6 n1 n2 n3=>?_⟩,he,m',hm.then hb,ho⟩
  have:=h1.keep q c T f hq t1 t2 t3 t4 t5 t6 n1 n2 n3
  rw [hb.block q (Array.getElem?_eq_some_iff.1 this).1,this]
theorem RF.eb (h:RF g m W W1) {k:Nat} {e:Hd} (hE:EB W k e) (n1:m.word.ownBlock≠some k) (n2:m.held.ownBlock≠some k) (n3:m.told.ownBlock≠some k):EB W1 k e :=
 h.keep k _ _ _ hE (by decide) (by decide) (by decide) (by decide) (by decide) (by decide) n1 n2 n3
def NoB (m:Mv) (k:Nat):Prop:=m.word.ownBlock≠some k∧m.held.ownBlock≠some k∧m.told.ownBlock≠some k
theorem NoB.om {k:Nat} {m1:Mv} (h:NoB m k) (o:OM W m m1) (hk:k<W.heap.size):NoB m1 k:=⟨o.word.ne hk h.1,o.held.ne hk h.2.1,o.told.ne hk h.2.2⟩
theorem RM.nob (h:RM W r g m st) {k:Nat} (hk:W.heap.size≤k):NoB m k :=
 ⟨fun e=>by have:=(World.ownsRow.lt h.word k e).2;omega,fun e=>by have:=(World.ownsRow.lt h.held k e).2;omega,fun e=>by have:=(World.ownsRow.lt h.told k e).2;omega⟩
theorem feed_q {k:Nat} {w1:World} (h1:RM w1 r g m st) (e:Hd) (hz:EvZ e) (hn:st.n≤200000) (hE:EB w1 k e) (NB:NoB m k):Calls Tryz.prog 34 #[.pointer (some ⟨g.ck,0,none⟩),.agg (evs e)] w1 fun q w'=>q=.returned (.int .i64 (if (feedE (some st.ck) (mayB e) e).isSome then 0 else 50))∧RF g m w1 w'∧EB w' k e∧RdB w' r (st.rv g m)∧∀ x,feedE (some st.ck) (mayB e) e=some x→RM w' r g m {st with ck:=x,n:=st.n + 1}:=by
 have hck:g.ck<w1.heap.size:=by
  obtain ⟨v,ps,hh,_⟩:=(show CkA w1 g.ck g.B st.n st.ck.1 st.ck.2 from h1.ck)
  exact hh.kb.lt
 refine (cfeed_k (some st.ck) e hz h1.ck hck h1.gk.ckB h1.ty.hB hn h1.gu (mayB e) (mayB_iff e)).mono ?_
 rintro q w2 ⟨h2,h3,h4⟩
 refine ⟨h2,RF.ofC h1 h4,(RF.ofC h1 h4).eb hE NB.1 NB.2.1 NB.2.2,h1.rdC h4,fun x hx=>?_⟩
 rw [hx] at h3
 exact h1.ofC h4 h3
theorem tally_q {k:Nat} {w1:World} (h1:RM w1 r g m st) (e:Hd) (hE:EB w1 k e) (NB:NoB m k):Calls Tryz.prog 120 #[.pointer (some ⟨g.ty,0,none⟩),.agg (evs e)] w1 fun q w'=>q=.returned (.int .i64 (match takeT st.tz st.tp e with|none=>2|some _=>0))∧RF g m w1 w'∧EB w' k e∧∃ m2,RM w' r g m2 {st with tz:=((takeT st.tz st.tp e).getD (st.tz,st.tp)).1,tp:=((takeT st.tz st.tp e).getD (st.tz,st.tp)).2}∧OM w1 m m2 :=
 (taken e h1.ty).mono (by
  rintro q w2 ⟨rfl,v',p1,p2⟩
  exact ⟨rfl,RF.ofT h1 p2,(RF.ofT h1 p2).eb hE NB.1 NB.2.1 NB.2.2,_,h1.ofT p1 p2,⟨OB.refl _ _,OB.refl _ _,OB.refl _ _⟩⟩)
set_option maxRecDepth 100000 in
theorem tell_a (h:RM W r g m st) (e:Hd) (hz:EvZ e) (hn:st.n≤200000) (hf:feedE (some st.ck) (mayB e) e=none):Calls Tryz.prog 90 #[.pointer (some ⟨r,0,none⟩),.agg (evs e)] W fun q w'=>RP W r g m (.inl 70) q w':=by
 have hlt:=h.lt
 obtain ⟨W0,hW0⟩:∃ W0,W0=W.alloc (.cells (evs e) 74):=⟨_,rfl⟩
 have B0:Hid (Below W.heap.size W W0):=by rw [hW0];exact below_al (Below.refl _ _)
 have E0:Hid (EB W0 W.heap.size e):=by rw [hW0];exact EB.new W e
 have M0:=hide (h.then B0.out)
 have NB:=hide (h.nob (Nat.le_refl _))
 have lo:=hide h.lo
 have gk:=hide h.gk
 clear h
 obtain ⟨k,hk⟩:∃ k,W.heap.size=k:=⟨_,rfl⟩
 rw [hk] at E0 NB
 have FE:=hide (fun w1 (h1:RM w1 r g m st) (hE:EB w1 k e)=>feed_q h1 e hz hn hE NB.out)
 rw [hf] at FE
 simp only [evs] at FE hW0 ⊢
 have c12:W0.cell? ⟨r,12,none⟩=some (.pointer (some ⟨g.ck,0,none⟩)):=(M0.out.rd.cell 12).trans rfl
 obtain ⟨d0,d1,d2,d3,d4,d5,d6⟩:=E0.out.cells
 clear hf hn hz
 go_enter Tryz.func90, Tryz.ntmps90
 go_wp2
 rw [←hW0]
 clear hW0
 go_region_with (go_at_call 34;refine (FE.out _ (M0.out.then (by repeat (first|exact Below.refl _ _|refine Below.drew ?_|refine below_al ?_))) (E0.out.below (by repeat (first|exact Below.refl _ _|refine Below.drew ?_|refine below_al ?_)))).mono ?_;rintro e w1 ⟨rfl,hp1,hp2,hp3,_⟩;have F1:Hid (RF g m W w1):=(RF.of (below_then B0.out (by repeat (first|exact Below.refl _ _|refine Below.drew ?_|refine below_al ?_))) lo.out).trans (OM.refl _ _) hp1;have R1:=hide hp3;clear hp1 hp2 hp3)
 all_goals
  go_wp2_with fail
  exact ⟨rfl,F1.out,rfl,_,R1.out⟩
end
section
variable {W W1 W2 : World} {r : Nat} {g : Gv} {m : Mv} {st : St}
set_option maxRecDepth 100000 in
theorem tell_b (h:RM W r g m st) (e:Hd) (hz:EvZ e) (hn:st.n≤200000) {x:List Pa×Bool} (hf:feedE (some st.ck) (mayB e) e=some x) (ht:takeT st.tz st.tp e=none) (h16:16<st.total):Calls Tryz.prog 90 #[.pointer (some ⟨r,0,none⟩),.agg (evs e)] W fun q w'=>RP W r g m (.inl 2) q w':=by
 have hlt:=h.lt
 obtain ⟨W0,hW0⟩:∃ W0,W0=W.alloc (.cells (evs e) 74):=⟨_,rfl⟩
 have B0:Hid (Below W.heap.size W W0):=by rw [hW0];exact below_al (Below.refl _ _)
 have E0:Hid (EB W0 W.heap.size e):=by rw [hW0];exact EB.new W e
 have M0:=hide (h.then B0.out)
 have NB:=hide (h.nob (Nat.le_refl _))
 have lo:=hide h.lo
 have gk:=hide h.gk
 clear h
 obtain ⟨k,hk⟩:∃ k,W.heap.size=k:=⟨_,rfl⟩
 rw [hk] at E0 NB
 have FE2:Hid (∀ w1,RM w1 r g m st→EB w1 k e→Calls Tryz.prog 34 #[.pointer (some ⟨g.ck,0,none⟩),.agg (evs e)] w1 fun q w'=>q=.returned (.int .i64 0)∧RF g m w1 w'∧EB w' k e∧RM w' r g m {st with ck:=x,n:=st.n + 1}):=fun w1 h1 hE=>(feed_q h1 e hz hn hE NB.out).mono (by
  rintro q w2 ⟨h1,h2,h3,_,h4⟩
  rw [hf] at h1
  exact ⟨h1,h2,h3,h4 x hf⟩)
 have TK2:Hid (∀ w1,RM w1 r g m {st with ck:=x,n:=st.n + 1}→EB w1 k e→Calls Tryz.prog 120 #[.pointer (some ⟨g.ty,0,none⟩),.agg (evs e)] w1 fun q w'=>q=.returned (.int .i64 2)∧RF g m w1 w'∧EB w' k e∧∃ m2,RM w' r g m2 {st with ck:=x,n:=st.n + 1}∧OM w1 m m2):=fun w1 h1 hE=>(tally_q h1 e hE NB.out).mono (by
  intro q w2 hp
  simp only [ht,Option.getD_none] at hp
  exact hp)
 clear ht hf hn hz
 have PA:Hid (∀ w1 m2,RM w1 r g m2 {st with ck:=x,n:=st.n + 1}→Calls Tryz.prog 59 #[.pointer (some ⟨r,0,none⟩)] w1 fun q w'=>q=.panicked (pan 2)∧w'=w1):=fun w1 m2 h1=>(pass_any h1.rd).mono (by
  intro q w' hp
  rw [if_pos (show 16<(({st with ck:=x,n:=st.n + 1}:St).rv g m2).total from h16)] at hp
  exact hp)
 clear h16
 obtain ⟨d0,d1,d2,d3,d4,d5,d6⟩:=E0.out.cells
 have c12:W0.cell? ⟨r,12,none⟩=some (.pointer (some ⟨g.ck,0,none⟩)):=(M0.out.rd.cell 12).trans rfl
 simp only [evs] at FE2 TK2 hW0 ⊢
 go_enter Tryz.func90, Tryz.ntmps90
 go_wp2
 rw [←hW0]
 clear hW0
 go_region_with (go_at_call 34;refine (FE2.out _ (M0.out.then (by repeat (first|exact Below.refl _ _|refine Below.drew ?_|refine below_al ?_))) (E0.out.below (by repeat (first|exact Below.refl _ _|refine Below.drew ?_|refine below_al ?_)))).mono ?_;rintro q w1 ⟨rfl,hp1,hp2,hp3⟩;have F1:Hid (RF g m W w1):=(RF.of (below_then B0.out (by repeat (first|exact Below.refl _ _|refine Below.drew ?_|refine below_al ?_))) lo.out).trans (OM.refl _ _) hp1;have M1:=hide hp3;have E1:=hide hp2;have d13:w1.cell? ⟨r,13,none⟩=some (.pointer (some ⟨g.ty,0,none⟩)):=(hp3.rd.cell 13).trans rfl;have hb:=hp2.cells;clear hp1 hp2 hp3)
 all_goals
  obtain ⟨a0,a1,a2,a3,a4,a5,a6⟩:=hb
  clear d0 d1 d2 d3 d4 d5 d6 c12
  go_wp2
  go_region_with (go_at_call 120;refine (TK2.out _ (M1.out.then (by repeat (first|exact Below.refl _ _|refine Below.drew ?_|refine below_al ?_))) (E1.out.below (by repeat (first|exact Below.refl _ _|refine Below.drew ?_|refine below_al ?_)))).mono ?_;rintro q w2 ⟨rfl,hp1,hp2,m2,hp3,hp4⟩;have F2:Hid (RF g m W w2):=F1.out.trans (OM.refl _ _) ((RF.of (by repeat (first|exact Below.refl _ _|refine Below.drew ?_|refine below_al ?_)) M1.out.lo).trans (OM.refl _ _) hp1);have O2:Hid (OM W m m2):=(OM.refl _ _).trans hp4 F1.out.below.size;have M2:=hide hp3;have E2:=hide hp2;clear hp1 hp2 hp3 hp4)
  all_goals
   go_wp2_with (go_at_call 59;refine (PA.out _ _ M2.out).mono ?_;rintro q w3 ⟨rfl,hw3⟩;have hws:=hw3.symm;clear hw3;subst hws)
   exact ⟨rfl,F2.out,rfl,_,M2.out.rd⟩
set_option maxRecDepth 100000 in
theorem tell_c (h:RM W r g m st) (e:Hd) (hz:EvZ e) (hn:st.n≤200000) {x:List Pa×Bool} (hf:feedE (some st.ck) (mayB e) e=some x) (ht:takeT st.tz st.tp e=none) (h16:¬ 16<st.total):Calls Tryz.prog 90 #[.pointer (some ⟨r,0,none⟩),.agg (evs e)] W fun q w'=>RP W r g m (.inr {st with ck:=x,passed:=true,n:=st.n + 1}) q w':=by
 have hlt:=h.lt
 obtain ⟨W0,hW0⟩:∃ W0,W0=W.alloc (.cells (evs e) 74):=⟨_,rfl⟩
 have B0:Hid (Below W.heap.size W W0):=by rw [hW0];exact below_al (Below.refl _ _)
 have E0:Hid (EB W0 W.heap.size e):=by rw [hW0];exact EB.new W e
 have M0:=hide (h.then B0.out)
 have NB:=hide (h.nob (Nat.le_refl _))
 have lo:=hide h.lo
 have gk:=hide h.gk
 clear h
 obtain ⟨k,hk⟩:∃ k,W.heap.size=k:=⟨_,rfl⟩
 rw [hk] at E0 NB
 have FE2:Hid (∀ w1,RM w1 r g m st→EB w1 k e→Calls Tryz.prog 34 #[.pointer (some ⟨g.ck,0,none⟩),.agg (evs e)] w1 fun q w'=>q=.returned (.int .i64 0)∧RF g m w1 w'∧EB w' k e∧RM w' r g m {st with ck:=x,n:=st.n + 1}):=fun w1 h1 hE=>(feed_q h1 e hz hn hE NB.out).mono (by
  rintro q w2 ⟨h1,h2,h3,_,h4⟩
  rw [hf] at h1
  exact ⟨h1,h2,h3,h4 x hf⟩)
 have TK2:Hid (∀ w1,RM w1 r g m {st with ck:=x,n:=st.n + 1}→EB w1 k e→Calls Tryz.prog 120 #[.pointer (some ⟨g.ty,0,none⟩),.agg (evs e)] w1 fun q w'=>q=.returned (.int .i64 2)∧RF g m w1 w'∧EB w' k e∧∃ m2,RM w' r g m2 {st with ck:=x,n:=st.n + 1}∧OM w1 m m2):=fun w1 h1 hE=>(tally_q h1 e hE NB.out).mono (by
  intro q w2 hp
  simp only [ht,Option.getD_none] at hp
  exact hp)
 clear ht hf hn hz
 have PA:Hid (∀ w1 m2,RM w1 r g m2 {st with ck:=x,n:=st.n + 1}→Calls Tryz.prog 59 #[.pointer (some ⟨r,0,none⟩)] w1 fun q w'=>q=.returned (.tuple #[])∧RF g m2 w1 w'∧RM w' r g m2 {st with ck:=x,n:=st.n + 1,passed:=true}):=fun w1 m2 h1=>(pass_any h1.rd).mono (by
  intro q w' hp
  rw [if_neg (show ¬ 16<(({st with ck:=x,n:=st.n + 1}:St).rv g m2).total from h16)] at hp
  exact ⟨hp.1,RF.ofO h1 hp.2.2,h1.sc hp.2.1 hp.2.2⟩)
 clear h16
 obtain ⟨d0,d1,d2,d3,d4,d5,d6⟩:=E0.out.cells
 have c12:W0.cell? ⟨r,12,none⟩=some (.pointer (some ⟨g.ck,0,none⟩)):=(M0.out.rd.cell 12).trans rfl
 simp only [evs] at FE2 TK2 hW0 ⊢
 go_enter Tryz.func90, Tryz.ntmps90
 go_wp2
 rw [←hW0]
 clear hW0
 go_region_with (go_at_call 34;refine (FE2.out _ (M0.out.then (by repeat (first|exact Below.refl _ _|refine Below.drew ?_|refine below_al ?_))) (E0.out.below (by repeat (first|exact Below.refl _ _|refine Below.drew ?_|refine below_al ?_)))).mono ?_;rintro q w1 ⟨rfl,hp1,hp2,hp3⟩;have F1:Hid (RF g m W w1):=(RF.of (below_then B0.out (by repeat (first|exact Below.refl _ _|refine Below.drew ?_|refine below_al ?_))) lo.out).trans (OM.refl _ _) hp1;have M1:=hide hp3;have E1:=hide hp2;have d13:w1.cell? ⟨r,13,none⟩=some (.pointer (some ⟨g.ty,0,none⟩)):=(hp3.rd.cell 13).trans rfl;have hb:=hp2.cells;clear hp1 hp2 hp3)
 all_goals
  obtain ⟨a0,a1,a2,a3,a4,a5,a6⟩:=hb
  clear d0 d1 d2 d3 d4 d5 d6 c12
  go_wp2
  go_region_with (go_at_call 120;refine (TK2.out _ (M1.out.then (by repeat (first|exact Below.refl _ _|refine Below.drew ?_|refine below_al ?_))) (E1.out.below (by repeat (first|exact Below.refl _ _|refine Below.drew ?_|refine below_al ?_)))).mono ?_;rintro q w2 ⟨rfl,hp1,hp2,m2,hp3,hp4⟩;have F2:Hid (RF g m W w2):=F1.out.trans (OM.refl _ _) ((RF.of (by repeat (first|exact Below.refl _ _|refine Below.drew ?_|refine below_al ?_)) M1.out.lo).trans (OM.refl _ _) hp1);have O2:Hid (OM W m m2):=(OM.refl _ _).trans hp4 F1.out.below.size;have M2:=hide hp3;have E2:=hide hp2;clear hp1 hp2 hp3 hp4)
  all_goals
   go_wp2_with (go_at_call 59;refine (PA.out _ _ M2.out).mono ?_;rintro q w3 ⟨rfl,hp1,hp2⟩;have F3:=hide hp1;have M3:=hide hp2;clear hp1 hp2;have d2:w3.cell? ⟨r,2,none⟩=some (.bool true):=(M3.out.rd.cell 2).trans rfl)
   go_end0
   exact ⟨F2.out.trans O2.out F3.out,rfl,m2,M3.out,O2.out⟩
end
section
variable {W W1 W2 : World} {r : Nat} {g : Gv} {m : Mv} {st : St}
set_option maxRecDepth 100000 in
theorem tell_d (h:RM W r g m st) (e:Hd) (hz:EvZ e) (hn:st.n≤200000) {x:List Pa×Bool} (hf:feedE (some st.ck) (mayB e) e=some x) {y:Nat×List Tp} (ht:takeT st.tz st.tp e=some y) (hp:st.passed=true):Calls Tryz.prog 90 #[.pointer (some ⟨r,0,none⟩),.agg (evs e)] W fun q w'=>RP W r g m (.inr {st with ck:=x,tz:=y.1,tp:=y.2,n:=st.n + 1}) q w':=by
 have hlt:=h.lt
 obtain ⟨W0,hW0⟩:∃ W0,W0=W.alloc (.cells (evs e) 74):=⟨_,rfl⟩
 have B0:Hid (Below W.heap.size W W0):=by rw [hW0];exact below_al (Below.refl _ _)
 have E0:Hid (EB W0 W.heap.size e):=by rw [hW0];exact EB.new W e
 have M0:=hide (h.then B0.out)
 have NB:=hide (h.nob (Nat.le_refl _))
 have lo:=hide h.lo
 have gk:=hide h.gk
 clear h
 obtain ⟨k,hk⟩:∃ k,W.heap.size=k:=⟨_,rfl⟩
 rw [hk] at E0 NB
 have FE2:Hid (∀ w1,RM w1 r g m st→EB w1 k e→Calls Tryz.prog 34 #[.pointer (some ⟨g.ck,0,none⟩),.agg (evs e)] w1 fun q w'=>q=.returned (.int .i64 0)∧RF g m w1 w'∧EB w' k e∧RM w' r g m {st with ck:=x,n:=st.n + 1}):=fun w1 h1 hE=>(feed_q h1 e hz hn hE NB.out).mono (by
  rintro q w2 ⟨h1,h2,h3,_,h4⟩
  rw [hf] at h1
  exact ⟨h1,h2,h3,h4 x hf⟩)
 have TK2:Hid (∀ w1,RM w1 r g m {st with ck:=x,n:=st.n + 1}→EB w1 k e→Calls Tryz.prog 120 #[.pointer (some ⟨g.ty,0,none⟩),.agg (evs e)] w1 fun q w'=>q=.returned (.int .i64 0)∧RF g m w1 w'∧EB w' k e∧∃ m2,RM w' r g m2 {st with ck:=x,n:=st.n + 1,tz:=y.1,tp:=y.2}∧OM w1 m m2):=fun w1 h1 hE=>(tally_q h1 e hE NB.out).mono (by
  intro q w2 hp
  simp only [ht,Option.getD_some] at hp
  exact hp)
 clear ht hf hn hz
 have hP:=hide hp
 clear hp
 obtain ⟨d0,d1,d2,d3,d4,d5,d6⟩:=E0.out.cells
 have c12:W0.cell? ⟨r,12,none⟩=some (.pointer (some ⟨g.ck,0,none⟩)):=(M0.out.rd.cell 12).trans rfl
 simp only [evs] at FE2 TK2 hW0 ⊢
 go_enter Tryz.func90, Tryz.ntmps90
 go_wp2
 rw [←hW0]
 clear hW0
 go_region_with (go_at_call 34;refine (FE2.out _ (M0.out.then (by repeat (first|exact Below.refl _ _|refine Below.drew ?_|refine below_al ?_))) (E0.out.below (by repeat (first|exact Below.refl _ _|refine Below.drew ?_|refine below_al ?_)))).mono ?_;rintro q w1 ⟨rfl,hp1,hp2,hp3⟩;have F1:Hid (RF g m W w1):=(RF.of (below_then B0.out (by repeat (first|exact Below.refl _ _|refine Below.drew ?_|refine below_al ?_))) lo.out).trans (OM.refl _ _) hp1;have M1:=hide hp3;have E1:=hide hp2;have d13:w1.cell? ⟨r,13,none⟩=some (.pointer (some ⟨g.ty,0,none⟩)):=(hp3.rd.cell 13).trans rfl;have hb:=hp2.cells;clear hp1 hp2 hp3)
 all_goals
  obtain ⟨a0,a1,a2,a3,a4,a5,a6⟩:=hb
  clear d0 d1 d2 d3 d4 d5 d6 c12
  go_wp2
  go_region_with (go_at_call 120;refine (TK2.out _ (M1.out.then (by repeat (first|exact Below.refl _ _|refine Below.drew ?_|refine below_al ?_))) (E1.out.below (by repeat (first|exact Below.refl _ _|refine Below.drew ?_|refine below_al ?_)))).mono ?_;rintro q w2 ⟨rfl,hp1,hp2,m2,hp3,hp4⟩;have F2:Hid (RF g m W w2):=F1.out.trans (OM.refl _ _) ((RF.of (by repeat (first|exact Below.refl _ _|refine Below.drew ?_|refine below_al ?_)) M1.out.lo).trans (OM.refl _ _) hp1);have O2:Hid (OM W m m2):=(OM.refl _ _).trans hp4 F1.out.below.size;have M2:=hide hp3;have E2:=hide hp2;have j2:w2.cell? ⟨r,2,none⟩=some (.bool true):=(hp3.rd.cell 2).trans (by rw [←hP.out];rfl);clear hp1 hp2 hp3 hp4)
  all_goals
   go_wp2
   go_end0
   exact ⟨F2.out,rfl,m2,M2.out,O2.out⟩
end
end Go.Proofs.YtpimjkdakjhoaaaGreatDoor
